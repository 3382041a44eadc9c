import Derived.Test.YthjakbpcpfmbjaaFuP
namespace Go.Proofs.Ythjakbpcpfmbjaa
open Go.RowKit
set_option linter.unusedVariables false
set_option linter.unusedSimpArgs false

/-- What a method leaves. -/
def FDo (w w' : World) (g base : Nat) (F : FS) (m' : FX) : Prop := FRep w' g base F m' ∧ FCh base w w'
theorem FDo.refl {w : World} {g base : Nat} {F : FS} {m : FX} (h : FRep w g base F m) : FDo w w g base F m := ⟨h, ChT.refl _ _ _⟩
/-- How many of a kind may be. -/
def stT (F : FS) (m : FX) (b : Nat) (x : Int) : FX := if bS b = F.sv then { m with my := updB m.my (bO b) x } else { m with tin := updB m.tin (bO b) x }
theorem stT_pos {F : FS} {m : FX} {b : Nat} {x : Int} (h : bS b = F.sv) : stT F m b x = { m with my := updB m.my (bO b) x } := if_pos h
theorem stT_neg {F : FS} {m : FX} {b : Nat} {x : Int} (h : ¬ bS b = F.sv) : stT F m b x = { m with tin := updB m.tin (bO b) x } := if_neg h
theorem kT_pos {F : FS} {m : FX} {b : Nat} (h : bS b = F.sv) : kT F m b = m.my (bO b) := if_pos h
theorem kT_neg {F : FS} {m : FX} {b : Nat} (h : ¬ bS b = F.sv) : kT F m b = m.tin (bO b) := if_neg h
theorem stT_L (F : FS) (m : FX) (b : Nat) (x : Int) : (stT F m b x).L = m.L ∧ (stT F m b x).cc = m.cc ∧ (stT F m b x).tc = m.tc ∧ (stT F m b x).rc = m.rc := by
  by_cases q : bS b = F.sv
  · rw [stT_pos q]; exact ⟨rfl, rfl, rfl, rfl⟩
  · rw [stT_neg q]; exact ⟨rfl, rfl, rfl, rfl⟩
theorem kO_st (F : FS) (m : FX) (b c : Nat) (x : Int) : kO F (stT F m b x) c = kO F m c := by
  by_cases q : bS b = F.sv
  · rw [stT_pos q]; rfl
  · rw [stT_neg q]; rfl
theorem kT_st (F : FS) (m : FX) (b c : Nat) (x : Int) (hb : b < 4) (hc : c < 4) : kT F (stT F m b x) c = if c = b then x else kT F m c := by
  by_cases e : c = b
  · subst e
    rw [if_pos rfl]
    by_cases q : bS c = F.sv
    · rw [kT_pos q, stT_pos q]; exact updB_at _ _ _
    · rw [kT_neg q, stT_neg q]; exact updB_at _ _ _
  · rw [if_neg e]
    by_cases q : bS b = F.sv <;> by_cases q' : bS c = F.sv
    · rw [kT_pos q', kT_pos q', stT_pos q]; exact updB_ne _ _ _ _ (bO_ne hb hc (Ne.symm e) (q.trans q'.symm))
    · rw [kT_neg q', kT_neg q', stT_pos q]
    · rw [kT_pos q', kT_pos q', stT_neg q]
    · rw [kT_neg q', kT_neg q', stT_neg q]; exact updB_ne _ _ _ _ (bO_ne hb hc (Ne.symm e) (by cases h1 : bS b <;> cases h2 : bS c <;> cases h3 : F.sv <;> simp_all))
theorem fcells_st (F : FS) (m : FX) (wb ms ml b : Nat) (x : Int) (hb : b < 4) : (fcells F m wb ms ml).setIfInBounds (10 + b * 2 + 1) (.int .i64 x) = fcells F (stT F m b x) wb ms ml := by
  unfold fcells
  rw [kO_st, kO_st, kO_st, kO_st, kT_st F m b 0 x hb (by omega), kT_st F m b 1 x hb (by omega), kT_st F m b 2 x hb (by omega), kT_st F m b 3 x hb (by omega)]
  obtain rfl | rfl | rfl | rfl : b = 0 ∨ b = 1 ∨ b = 2 ∨ b = 3 := by omega
  all_goals rfl
set_option maxRecDepth 20000 in
set_option maxHeartbeats 2000000 in
theorem dataInI (g base : Nat) (F : FS) (m : FX) (n : Int) (w : World) (h : FRep w g base F m) :
    Calls Try.prog 41 #[.pointer (some ⟨g, 0, none⟩), .int .i64 n] w fun e w' => e = .returned (.int .i64 (fdin m n).2) ∧ FDo w w' g base F (fdin m n).1 := by
  have HR : Hid _ := h
  obtain ⟨wb, ms, ml, pb, h⟩ := h
  have c9 : w.cell? ⟨g, 9, none⟩ = some (.pointer (some ⟨wb, 0, none⟩)) := h.cell 9
  have a2 : w.cell? ⟨wb, 2, none⟩ = some (.int .i64 m.cc) := h.wcell 2
  have f2 := h.wfree 2
  by_cases a : n < 0
  · have e : fdin m n = (m, 1) := if_pos (Or.inl a)
    rw [e]
    clear e h
    go_enter Try.func41, Try.ntmps41
    go_wp2
    go_ret
    exact ⟨rfl, FDo.refl HR.out⟩
  by_cases b : 4611686018427387903 < n
  · have e : fdin m n = (m, 1) := if_pos (Or.inr b)
    rw [e]
    clear e h
    go_enter Try.func41, Try.ntmps41
    go_wp2
    go_ret
    exact ⟨rfl, FDo.refl HR.out⟩
  have e : fdin m n = ({ m with cc := max m.cc n }, 0) := if_neg (by omega)
  rw [e]
  have h1 : FR (w.setCell ⟨wb, 2, none⟩ (.int .i64 (max m.cc n))) g base F { m with cc := max m.cc n } (sumS m.L) (sumC m.L) wb ms ml pb := h.setW 2 _ rfl rfl rfl rfl rfl rfl
  have HH : Hid _ := And.intro h1 (h.chW (ChT.refl _ _ _) 2 (.int .i64 (max m.cc n)))
  clear e h h1
  generalize m.cc = cc at *
  go_enter Try.func41, Try.ntmps41
  go_wp2_with fail
  go_region
  go_wp2
  go_ret
  exact ⟨rfl, ⟨_, _, _, _, HH.out.1.drewN 1⟩, HH.out.2.drew⟩
set_option maxRecDepth 20000 in
set_option maxHeartbeats 2000000 in
theorem streamsInI (g base : Nat) (F : FS) (m : FX) (o : Bool) (n : Int) (w : World) (h : FRep w g base F m) :
    Calls Try.prog 43 #[.pointer (some ⟨g, 0, none⟩), .bool o, .int .i64 n] w fun e w' => e = .returned (.int .i64 (fmin m o n).2) ∧ FDo w w' g base F (fmin m o n).1 := by
  have HR : Hid _ := h
  obtain ⟨wb, ms, ml, pb, h⟩ := h
  by_cases a : n < 0
  · have e : fmin m o n = (m, 1) := if_pos (Or.inl a)
    rw [e]
    clear e h
    go_enter Try.func43, Try.ntmps43
    go_wp2
    go_ret
    exact ⟨rfl, FDo.refl HR.out⟩
  by_cases b : 1152921504606846976 < n
  · have e : fmin m o n = (m, 1) := if_pos (Or.inr b)
    rw [e]
    clear e h
    go_enter Try.func43, Try.ntmps43
    go_wp2
    go_ret
    exact ⟨rfl, FDo.refl HR.out⟩
  have e : fmin m o n = ({ m with my := updB m.my o (max (m.my o) n) }, 0) := if_neg (by omega)
  rw [e]
  have K := kindI g F.sv true o w (h.cell 0)
  have hb := bN_lt F.sv o
  have eb : (F.sv == true) = F.sv := by cases F.sv <;> rfl
  rw [eb] at K
  have es := bS_bN F.sv o
  have eo := bO_bN F.sv o
  generalize bN F.sv o = b at *
  obtain ⟨k0, k1⟩ := h.kc b hb
  obtain ⟨f0, f1⟩ := h.kfree b
  have ek : kT F m b = m.my o := by rw [kT_pos es, eo]
  rw [ek] at k1
  have HS := stT_L F m b (max (m.my o) n)
  have h1 := h.setK (10 + b * 2 + 1) (.int .i64 (max (m.my o) n)) (fcells_st F m wb ms ml b _ hb) HS.1 HS.2.1 HS.2.2.1 HS.2.2.2
  rw [stT_pos es, eo] at h1
  have HH : Hid _ := And.intro h1 (And.intro (h.chK (ChT.refl _ _ _) (10 + b * 2 + 1) (.int .i64 (max (m.my o) n))) K)
  clear e h h1 K es eo HS ek eb
  generalize m.my o = my at *
  go_enter Try.func43, Try.ntmps43
  go_wp2_with (first | (go_at_call 35; refine HH.out.2.2.mono ?_; rintro e w1 ⟨rfl, q, hw1⟩; subst hw1))
  go_ret
  exact ⟨rfl, ⟨_, _, _, _, HH.out.1.drewN q⟩, HH.out.2.1.drewN q⟩
set_option maxRecDepth 20000 in
set_option maxHeartbeats 2000000 in
theorem streamInI (g base : Nat) (F : FS) (m : FX) (i : Nat) (id n : Int) (w : World) (h : FRep w g base F m) (hI : FXI F i m) (hi : i ≤ 400) (hw : (Lit.int .i64 id).wf = true) :
    Calls Try.prog 42 #[.pointer (some ⟨g, 0, none⟩), .int .i64 id, .int .i64 n] w fun e w' => e = .returned (.int .i64 (fsin F m id n).2) ∧ FDo w w' g base F (fsin F m id n).1 := by
  have HR : Hid _ := h
  obtain ⟨wb, ms, ml, pb, h⟩ := h
  by_cases a : n < 0
  · have e : fsin F m id n = (m, 1) := if_pos (Or.inl a)
    rw [e]
    clear e h
    go_enter Try.func42, Try.ntmps42
    go_wp2
    go_ret
    exact ⟨rfl, FDo.refl HR.out⟩
  by_cases b : 4611686018427387903 < n
  · have e : fsin F m id n = (m, 1) := if_pos (Or.inr b)
    rw [e]
    clear e h
    go_enter Try.func42, Try.ntmps42
    go_wp2
    go_ret
    exact ⟨rfl, FDo.refl HR.out⟩
  have C := canSI g base F m _ _ wb ms ml pb i id w h hI hi hw
  by_cases c : canS F m.L id
  · have e : fsin F m id n = ({ m with L := sxSet m.L id { sxAt m.L id with cr := max (sxAt m.L id).cr n } }, 0) := (if_neg (by omega)).trans (if_pos c)
    rw [e]
    rw [decide_eq_true c] at C
    have c18 : w.cell? ⟨g, 18, none⟩ = some (.map (some ms)) := h.cell 18
    have LK := (h.sm.same (w' := w.drew) rfl).look hw
    rw [mS_pos c.1] at LK
    simp only [pval] at LK
    have a2 : w.cell? ⟨pb (ixf m.L id), 2, none⟩ = some (.int .i64 (sxAt m.L id).cr) := h.acell c.1 2
    have f2 := h.afree c.1 2
    have hx := (ixf_some c.1).1
    have h1 := h.setA id c.1 2 (.int .i64 (max (sxAt m.L id).cr n)) { sxAt m.L id with cr := max (sxAt m.L id).cr n } hx rfl rfl
    have s1 : sumS (sxSet m.L id { sxAt m.L id with cr := max (sxAt m.L id).cr n }) = sumS m.L := by rw [sumS_set _ _ _ c.1]; show sumS m.L - (sxAt m.L id).sn + (sxAt m.L id).sn = _; omega
    have s2 : sumC (sxSet m.L id { sxAt m.L id with cr := max (sxAt m.L id).cr n }) = sumC m.L := by rw [sumC_set _ _ _ c.1]; show sumC m.L - (sxAt m.L id).cm + (sxAt m.L id).cm = _; omega
    rw [← s1, ← s2] at h1
    have HH : Hid _ := And.intro h1 (And.intro (h.chA (ChT.refl _ _ _) c.1 2 (.int .i64 (max (sxAt m.L id).cr n))) C)
    clear e h h1 C s1 s2 hx hI hi c
    generalize pb (ixf m.L id) = p at *
    generalize (sxAt m.L id).cr = cr at *
    go_enter Try.func42, Try.ntmps42
    go_wp2_with (first | (go_at_call 53; refine HH.out.2.2.mono ?_; rintro e w1 ⟨rfl, hw1⟩; subst hw1))
    go_region
    go_wp2
    go_ret
    exact ⟨rfl, ⟨_, _, _, _, HH.out.1.drewN 1⟩, HH.out.2.1.drew⟩
  · have e : fsin F m id n = (m, 7) := (if_neg (by omega)).trans (if_neg c)
    rw [e]
    rw [decide_eq_false c] at C
    have HC : Hid _ := And.intro C True.intro
    clear e h C hI hi c
    go_enter Try.func42, Try.ntmps42
    go_wp2_with (first | (go_at_call 53; refine HC.out.1.mono ?_; rintro e w1 ⟨rfl, hw1⟩; subst hw1))
    go_ret
    exact ⟨rfl, FDo.refl HR.out⟩
set_option maxRecDepth 20000 in
set_option maxHeartbeats 2000000 in
theorem openI (g base : Nat) (F : FS) (m : FX) (i : Nat) (o : Bool) (w : World) (h : FRep w g base F m) (hI : FXI F i m) (hi : i ≤ 400) (hbase : base ≤ w.heap.size) :
    Calls Try.prog 36 #[.pointer (some ⟨g, 0, none⟩), .bool o] w fun e w' => e = .returned (.tuple #[.int .i64 (fopen F m o).2.id, .int .i64 (fopen F m o).2.code]) ∧ FDo w w' g base F (fopen F m o).1 := by
  have HR : Hid _ := h
  obtain ⟨wb, ms, ml, pb, h⟩ := h
  have K := kindI g F.sv true o w (h.cell 0)
  have hb := bN_lt F.sv o
  have eb : (F.sv == true) = F.sv := by cases F.sv <;> rfl
  rw [eb] at K
  have es := bS_bN F.sv o
  have eo := bO_bN F.sv o
  have eI : idV F.sv o 0 = (bN F.sv o : Int) := by cases F.sv <;> cases o <;> decide
  have I := fun u => implIdOf F.sv o 0 u
  rw [eI] at I
  have c0 : w.cell? ⟨g, 0, none⟩ = some (.bool F.sv) := h.cell 0
  have N := fun (u : World) (hu : FR u g base F m (sumS m.L) (sumC m.L) wb ms ml pb) (hbu : base ≤ u.heap.size) => openNI g base F m (sumS m.L) (sumC m.L) wb ms ml pb (bN F.sv o) u hu hb hbu
  generalize bN F.sv o = b at *
  have ek : kO F m b = m.op o := by rw [kO_pos es, eo]
  have et : kT F m b = m.my o := by rw [kT_pos es, eo]
  obtain ⟨k0, k1⟩ := h.kc b hb
  rw [ek] at k0 N
  rw [et] at k1
  rw [es, eo] at N
  have ho := hI.op o
  have hm := hI.my o
  by_cases a : m.my o ≤ m.op o
  · have e : fopen F m o = (m, ⟨9, 0, 0, []⟩) := if_pos a
    rw [e]
    have HH : Hid _ := And.intro K h
    clear e h K es eo eb N I eI ek et
    generalize m.my o = my at *
    generalize m.op o = op at *
    go_enter Try.func36, Try.ntmps36
    go_wp2_with (first | (go_at_call 35; refine HH.out.1.mono ?_; rintro e w1 ⟨rfl, q, hw1⟩; subst hw1))
    go_quiet (fail)
    go_wp2_with fail
    go_ret2
    exact ⟨rfl, ⟨_, _, _, _, (HH.out.2.drewN q).drewN _⟩, ((ChT.refl _ _ _).drewN q).drewN _⟩
  · have e : fopen F m o = ({ m with L := m.L ++ [SX.new F (idn F.sv o (m.op o))], op := updB m.op o (m.op o + 1) }, ⟨0, idn F.sv o (m.op o), 0, []⟩) := if_neg a
    rw [e]
    have hlen := hI.len_le hi
    have hn : ¬ ixf m.L (idn F.sv o (m.op o)) < m.L.length := fun hx => by
      obtain ⟨o', k, hk, ⟨k1, e⟩ | ⟨k1, e⟩⟩ := (hI.mem _).1 (ixf_mem.1 hx)
      · have a1 := hI.op o'
        have b1 := hI.my o'
        obtain ⟨-, rfl, q3⟩ := idn_inj ho.1 (by omega) hk (by omega) e
        omega
      · have a1 := hI.th o'
        have b1 := hI.tin o'
        exact absurd (idn_inj ho.1 (by omega) hk (by omega) e).1 (by simp)
    have N' := fun (u : World) (hu : FR u g base F m (sumS m.L) (sumC m.L) wb ms ml pb) (hbu : base ≤ u.heap.size) => N u hu hbu ho.1 (by omega) hn (by omega)
    have HH : Hid _ := And.intro K (And.intro h (And.intro I (And.intro N' hbase)))
    have HE : Hid _ := And.intro es eo
    clear e h K es eo eb N N' I eI ek et hn
    obtain ⟨id, eid⟩ : ∃ id, id = idn F.sv o (m.op o) := ⟨_, rfl⟩
    rw [← eid] at HH ⊢
    have HI : Hid _ := eid
    clear eid
    obtain ⟨my, emy⟩ : ∃ x, x = m.my o := ⟨_, rfl⟩
    obtain ⟨op, eop⟩ : ∃ x, x = m.op o := ⟨_, rfl⟩
    rw [← emy] at k1 a
    rw [← eop] at k0 a
    have hop : decide (my ≤ op) = false := decide_eq_false a
    have HM : Hid _ := And.intro emy eop
    clear emy eop ho hm
    go_enter Try.func36, Try.ntmps36
    go_wp2_with (first | (go_at_call 35; refine HH.out.1.mono ?_; rintro e w1 ⟨rfl, q, hw1⟩; subst hw1))
    go_quiet (fail)
    go_wp2_with (first | (go_at_call 9; refine (HH.out.2.2.1 _).mono ?_; rintro e w2 ⟨rfl, hw2⟩; subst hw2))
    go_at_call 52
    refine (HH.out.2.2.2.1 _ ?_ ?_).mono ?_
    · exact HH.out.2.1.drewN _
    · exact HH.out.2.2.2.2
    rintro e w3 ⟨rfl, pb', hp, hc⟩
    go_wp2
    go_ret2
    refine ⟨rfl, ⟨wb, ms, ml, pb', ?_⟩, ?_⟩
    · rw [incK_pos HE.out.1, HE.out.2] at hp
      show FR w3 g base F _ (sumS (m.L ++ [_])) (sumC (m.L ++ [_])) wb ms ml pb'
      rw [sumS_app, sumC_app]
      simpa [SX.new] using hp
    · exact ((ChT.refl _ _ _).drewN _).trans hc
end Go.Proofs.Ythjakbpcpfmbjaa
