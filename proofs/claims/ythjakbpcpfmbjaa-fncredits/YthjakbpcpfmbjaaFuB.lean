import Derived.Test.YthjakbpcpfmbjaaFuA
namespace Go.Proofs.Ythjakbpcpfmbjaa
open Go.RowKit
set_option linter.unusedVariables false

theorem addk_ids (F : FS) (s o : Bool) (L : List SX) (a : Int) : ∀ n : Nat, (addk F s o L a n).map SX.id = L.map SX.id ++ (List.range n).map (fun (k : Nat) => idn s o (a + (k : Int)))
  | 0 => by simp [addk]
  | n + 1 => by
    rw [addk, List.map_append, addk_ids F s o L a n, List.range_succ, List.map_append, List.append_assoc]
    rfl
theorem addk_len (F : FS) (s o : Bool) (L : List SX) (a : Int) : ∀ n : Nat, (addk F s o L a n).length = L.length + n
  | 0 => rfl
  | n + 1 => by rw [addk, List.length_append, addk_len F s o L a n]; rfl
theorem addk_sumS (F : FS) (s o : Bool) (L : List SX) (a : Int) : ∀ n : Nat, sumS (addk F s o L a n) = sumS L
  | 0 => rfl
  | n + 1 => by rw [addk, sumS_app, addk_sumS F s o L a n]; simp [SX.new]
theorem addk_sumC (F : FS) (s o : Bool) (L : List SX) (a : Int) : ∀ n : Nat, sumC (addk F s o L a n) = sumC L
  | 0 => rfl
  | n + 1 => by rw [addk, sumC_app, addk_sumC F s o L a n]; simp [SX.new]
theorem addk_mem (F : FS) (s o : Bool) (L : List SX) (a : Int) : ∀ (n : Nat) (x : SX), x ∈ addk F s o L a n → x ∈ L ∨ ∃ id, x = SX.new F id
  | 0, x, h => Or.inl h
  | n + 1, x, h => by
    rw [addk, List.mem_append] at h
    rcases h with h | h
    · exact addk_mem F s o L a n x h
    · exact Or.inr ⟨_, by simpa using h⟩
theorem SXI.new {F : FS} (hF : fsOK F = true) (i : Nat) (id : Int) : SXI F i (SX.new F id) := by
  simp only [fsOK, decide_eq_true_eq] at hF
  exact ⟨⟨Int.le_refl _, hF.2.2.2.2.2.2.2.2.2.2.1⟩, hF.2.2.2.2.2.2.2.2.2.2.2.1, ⟨Int.le_refl _, Int.le_refl _, by show (0 : Int) ≤ _; omega⟩, by show (0 : Int) ≤ F.sw; omega, by show F.sw ≤ 0 + F.sw; omega⟩
theorem cons_nodup (l : List Int) (x : Int) (h : l.Nodup) (hx : x ∉ l) : (l ++ [x]).Nodup := by
  rw [List.nodup_append]
  exact ⟨h, by simp, fun a ha b hb e => by simp at hb; subst hb; subst e; exact hx ha⟩
/-- One more of ours. -/
theorem FXI.open' {F : FS} (hF : fsOK F = true) {i : Nat} {m : FX} (h : FXI F i m) (hi : i ≤ 400) (o : Bool) (hlt : m.op o < m.my o) :
    FXI F (i + 1) { m with L := m.L ++ [SX.new F (idn F.sv o (m.op o))], op := updB m.op o (m.op o + 1) } := by
  have u := h.up
  have hm := h.my o
  have ho := h.op o
  refine ⟨?_, fun id => ?_, ?_, fun o' => ?_, u.th, u.my, u.tin, fun s hs => ?_, ?_, ?_, u.rc⟩
  · show (List.map SX.id (m.L ++ [_])).Nodup
    rw [List.map_append]
    refine cons_nodup _ _ h.nd fun hx => ?_
    obtain ⟨o', k, hk, ⟨k1, e⟩ | ⟨k1, e⟩⟩ := (h.mem _).1 hx
    · have e' : idn F.sv o (m.op o) = idn F.sv o' k := e
      have a := h.op o'
      have b := h.my o'
      have q := idn_inj ho.1 (by omega) hk (by omega) e'
      obtain ⟨-, rfl, q3⟩ := q
      omega
    · have e' : idn F.sv o (m.op o) = idn (!F.sv) o' k := e
      have a := h.th o'
      have b := h.tin o'
      have q := idn_inj ho.1 (by omega) hk (by omega) e'
      exact absurd q.1 (by simp)
  · show id ∈ List.map SX.id (m.L ++ [_]) ↔ _
    rw [List.map_append, List.mem_append, h.mem]
    constructor
    · rintro (⟨o', k, hk, ⟨k1, e⟩ | ⟨k1, e⟩⟩ | e)
      · refine ⟨o', k, hk, Or.inl ⟨?_, e⟩⟩
        show k < updB m.op o _ o'
        by_cases q : o' = o
        · subst q; rw [updB_at]; omega
        · rw [updB_ne _ _ _ _ q]; exact k1
      · exact ⟨o', k, hk, Or.inr ⟨k1, e⟩⟩
      · refine ⟨o, m.op o, ho.1, Or.inl ⟨?_, by simpa [SX.new] using e⟩⟩
        show m.op o < updB m.op o _ o
        rw [updB_at]; omega
    · rintro ⟨o', k, hk, ⟨k1, e⟩ | ⟨k1, e⟩⟩
      · replace k1 : k < updB m.op o (m.op o + 1) o' := k1
        by_cases q : o' = o
        · subst q
          rw [updB_at] at k1
          by_cases q2 : k = m.op o'
          · right; subst q2; simpa [SX.new] using e
          · left; exact ⟨o', k, hk, Or.inl ⟨by omega, e⟩⟩
        · rw [updB_ne _ _ _ _ q] at k1
          left; exact ⟨o', k, hk, Or.inl ⟨k1, e⟩⟩
      · left; exact ⟨o', k, hk, Or.inr ⟨k1, e⟩⟩
  · show ((m.L ++ [_]).length : Int) = updB m.op o _ false + updB m.op o _ true + _ + _
    have := h.len
    rw [List.length_append]
    cases o
    · rw [updB_at, updB_ne _ _ _ _ (by decide)]; simp; omega
    · rw [updB_at, updB_ne _ _ _ _ (by decide)]; simp; omega
  · show 0 ≤ updB m.op o _ o' ∧ updB m.op o _ o' ≤ m.my o' ∧ updB m.op o _ o' ≤ _
    by_cases q : o' = o
    · subst q; rw [updB_at]; omega
    · rw [updB_ne _ _ _ _ q]; exact u.op o'
  · rcases List.mem_append.1 hs with a | a
    · exact u.each s a
    · rw [List.mem_singleton.1 a]; exact SXI.new hF _ _
  · show sumS (m.L ++ [_]) ≤ _ ∧ _
    rw [sumS_app]; have := h.cc; simp [SX.new]; omega
  · show sumC (m.L ++ [_]) ≤ _ ∧ _
    rw [sumC_app]; have := h.tc; simp [SX.new]; omega
/-- More of the other side's. -/
theorem FXI.adm {F : FS} (hF : fsOK F = true) {i : Nat} {m : FX} (h : FXI F i m) (hi : i ≤ 400) (o : Bool) (n : Nat) (hlt : m.th o + n ≤ m.tin o) :
    FXI F i { m with L := addk F (!F.sv) o m.L (m.th o) n, th := updB m.th o (m.th o + n) } := by
  have hm := h.tin o
  have ho := h.th o
  refine ⟨?_, fun id => ?_, ?_, h.op, fun o' => ?_, h.my, h.tin, fun s hs => ?_, ?_, ?_, h.rc⟩
  · show (List.map SX.id (addk F (!F.sv) o m.L (m.th o) n)).Nodup
    rw [addk_ids, List.nodup_append]
    refine ⟨h.nd, ?_, fun a ha b hb e => ?_⟩
    · have hr := List.nodup_range (n := n)
      unfold List.Nodup at hr ⊢
      rw [List.pairwise_map]
      refine hr.imp_of_mem fun {a b} ha hb hab e => ?_
      have ha := List.mem_range.1 ha
      have hb := List.mem_range.1 hb
      have := (idn_inj (by omega) (by omega) (by omega) (by omega) e).2.2
      omega
    · obtain ⟨q, hq, rfl⟩ := List.mem_map.1 hb
      have hq := List.mem_range.1 hq
      obtain ⟨o', k, hk, ⟨k1, e'⟩ | ⟨k1, e'⟩⟩ := (h.mem _).1 ha
      · have a1 := h.op o'
        have b1 := h.my o'
        have q := idn_inj hk (by omega) (by omega) (by omega) (e'.symm.trans e)
        exact absurd q.1 (by simp)
      · have a1 := h.th o'
        have b1 := h.tin o'
        have q := idn_inj hk (by omega) (by omega) (by omega) (e'.symm.trans e)
        obtain ⟨-, rfl, q3⟩ := q
        omega
  · show id ∈ List.map SX.id (addk F (!F.sv) o m.L (m.th o) n) ↔ _
    rw [addk_ids, List.mem_append, h.mem]
    constructor
    · rintro (⟨o', k, hk, ⟨k1, e⟩ | ⟨k1, e⟩⟩ | e)
      · exact ⟨o', k, hk, Or.inl ⟨k1, e⟩⟩
      · refine ⟨o', k, hk, Or.inr ⟨?_, e⟩⟩
        show k < updB m.th o _ o'
        by_cases q : o' = o
        · subst q; rw [updB_at]; omega
        · rw [updB_ne _ _ _ _ q]; exact k1
      · obtain ⟨q, hq, rfl⟩ := List.mem_map.1 e
        have hq := List.mem_range.1 hq
        refine ⟨o, m.th o + q, by omega, Or.inr ⟨?_, rfl⟩⟩
        show _ < updB m.th o _ o
        rw [updB_at]; omega
    · rintro ⟨o', k, hk, ⟨k1, e⟩ | ⟨k1, e⟩⟩
      · left; exact ⟨o', k, hk, Or.inl ⟨k1, e⟩⟩
      · replace k1 : k < updB m.th o (m.th o + n) o' := k1
        by_cases q : o' = o
        · subst q
          rw [updB_at] at k1
          by_cases q2 : k < m.th o'
          · left; exact ⟨o', k, hk, Or.inr ⟨q2, e⟩⟩
          · right
            refine List.mem_map.2 ⟨(k - m.th o').toNat, List.mem_range.2 (by omega), ?_⟩
            rw [e]; congr 1; omega
        · rw [updB_ne _ _ _ _ q] at k1
          left; exact ⟨o', k, hk, Or.inr ⟨k1, e⟩⟩
  · show ((addk F (!F.sv) o m.L (m.th o) n).length : Int) = m.op false + m.op true + updB m.th o _ false + updB m.th o _ true
    have := h.len
    rw [addk_len]
    cases o
    · rw [updB_at, updB_ne _ _ _ _ (by decide)]; omega
    · rw [updB_at, updB_ne _ _ _ _ (by decide)]; omega
  · show 0 ≤ updB m.th o _ o' ∧ updB m.th o _ o' ≤ m.tin o'
    by_cases q : o' = o
    · subst q; rw [updB_at]; omega
    · rw [updB_ne _ _ _ _ q]; exact h.th o'
  · rcases addk_mem _ _ _ _ _ _ _ hs with a | ⟨id, rfl⟩
    · exact h.each s a
    · exact SXI.new hF _ _
  · show sumS (addk _ _ _ _ _ _) ≤ _ ∧ _
    rw [addk_sumS]; exact h.cc
  · show sumC (addk _ _ _ _ _ _) ≤ _ ∧ _
    rw [addk_sumC]; exact h.tc
theorem FXI.at' {F : FS} {i : Nat} {m : FX} (h : FXI F i m) {id : Int} (hl : ixf m.L id < m.L.length) : SXI F i (sxAt m.L id) ∧ (sxAt m.L id).id = id := ⟨h.each _ (ixf_some hl).2, (ixf_some hl).1⟩
theorem tdV_bound {w r t : Int} (ht : t ≤ r + w) (hw : 1 ≤ w) : t ≤ tdV w r t ∧ tdV w r t ≤ r + w := by
  unfold tdV
  split <;> omega
theorem cnV_tdV {r w t : Int} (hr : 0 ≤ r ∧ r ≤ 1099511627776) (ht : 0 ≤ t ∧ t ≤ 1099511627776) (hw : 1 ≤ w ∧ w ≤ 16384) : cnV r w t = tdV w r t := by
  unfold cnV tdV
  rw [if_neg (by omega)]
theorem sum_part_le {α : Type} (f g : α → Int) : ∀ L : List α, (∀ x ∈ L, f x ≤ g x) → (L.map f).sum ≤ (L.map g).sum
  | [], _ => by simp
  | x :: r, h => by
    have a := sum_part_le f g r (fun y hy => h y (List.mem_cons_of_mem _ hy))
    have b := h x (List.mem_cons_self ..)
    simp only [List.map_cons, List.sum_cons]
    omega
/-- What came and was not read: of one no more than of all. -/
theorem one_le_sum {α : Type} (f : α → Int) : ∀ (L : List α), (∀ x ∈ L, 0 ≤ f x) → 0 ≤ (L.map f).sum ∧ ∀ x ∈ L, f x ≤ (L.map f).sum
  | [], _ => ⟨by simp, fun x hx => by cases hx⟩
  | y :: r, h => by
    obtain ⟨a, b⟩ := one_le_sum f r (fun y hy => h y (List.mem_cons_of_mem _ hy))
    have c := h y (List.mem_cons_self ..)
    simp only [List.map_cons, List.sum_cons]
    refine ⟨by omega, fun x hx => ?_⟩
    rcases List.mem_cons.1 hx with rfl | hx
    · omega
    · have := b x hx; omega
theorem FXI.step {F : FS} (hF : fsOK F = true) {i : Nat} {m : FX} (h : FXI F i m) (hi : i ≤ 400) (k id n : Int) (o : Bool) : FXI F (i + 1) (fstep F m k id n o).1 := by
  have u := h.up
  have hF' := hF
  simp only [fsOK, decide_eq_true_eq] at hF'
  unfold fstep
  split
  · unfold fopen
    split
    · exact u
    · exact h.open' hF hi o (by omega)
  split
  · unfold fsend
    split
    · exact u
    split
    · rename_i c1 c2
      obtain ⟨e, q⟩ := h.at' c2.1
      refine h.setX id { sxAt m.L id with sn := (sxAt m.L id).sn + cntS m id n } c2.1 q ⟨?_, e.cr, e.up.rd, e.cm, e.td⟩ m.cc ?_ m.tc m.rc ⟨?_, h.tc.2⟩ u.rc
      · have a := e.sn
        have b := h.cc
        show 0 ≤ (sxAt m.L id).sn + cntS m id n ∧ (sxAt m.L id).sn + cntS m id n ≤ (sxAt m.L id).cr
        unfold cntS
        omega
      · have b := h.cc
        show sumS m.L - (sxAt m.L id).sn + ((sxAt m.L id).sn + cntS m id n) ≤ m.cc ∧ _
        unfold cntS
        omega
      · show sumC m.L - (sxAt m.L id).cm + (sxAt m.L id).cm ≤ m.tc
        have := h.tc; omega
    · exact u
  split
  · show FXI F (i + 1) (farrive F m id n).1
    unfold farrive
    split
    · exact u
    split
    · exact u
    rename_i c1 c2
    have hw : FXI F i (fwho F m id) := by
      unfold fwho
      split
      · exact h
      · rename_i c3
        unfold fadm
        refine h.adm hF hi (ptO id) _ ?_
        have a := h.th (ptO id)
        have b : id / 4 < m.tin (ptO id) := by
          by_cases c4 : m.tin (ptO id) ≤ id / 4
          · exact absurd ⟨c3, c4⟩ c2
          · omega
        omega
    unfold fput
    split
    · rename_i c4
      split
      · exact hw.up
      · rename_i c5
        obtain ⟨e, q⟩ := hw.at' c4.1
        refine hw.setX id { sxAt (fwho F m id).L id with cm := max n (sxAt (fwho F m id).L id).cm } c4.1 q ⟨e.sn, e.cr, ⟨e.rd.1, ?_, e.up.rd.2.2⟩, ?_, e.td⟩ (fwho F m id).cc ?_ (fwho F m id).tc (fwho F m id).rc ⟨?_, hw.tc.2⟩ hw.up.rc
        · have := e.rd; show (sxAt (fwho F m id).L id).rd ≤ max n (sxAt (fwho F m id).L id).cm; omega
        · show max n (sxAt (fwho F m id).L id).cm ≤ (sxAt (fwho F m id).L id).td; omega
        · have := hw.cc; show sumS _ - (sxAt (fwho F m id).L id).sn + (sxAt (fwho F m id).L id).sn ≤ _ ∧ _; omega
        · show sumC (fwho F m id).L - (sxAt (fwho F m id).L id).cm + max n (sxAt (fwho F m id).L id).cm ≤ (fwho F m id).tc; omega
    · exact hw.up
  split
  · unfold fread
    split
    · rename_i c1
      split
      · exact u
      · rename_i c2
        obtain ⟨e, q⟩ := h.at' c1.1
        have t1 := tdV_bound (w := F.sw) (r := (sxAt m.L id).rd + n) (t := (sxAt m.L id).td) (by have := e.td; omega) (by omega)
        have t2 := tdV_bound (w := F.cw) (r := m.rc + n) (t := m.tc) (by have := h.tc; omega) (by omega)
        have hn : n ≤ 16384 := by have := e.cm; have := e.td; omega
        refine h.setX id { sxAt m.L id with rd := (sxAt m.L id).rd + n, td := tdV F.sw ((sxAt m.L id).rd + n) (sxAt m.L id).td } c1.1 q ⟨e.sn, e.cr, ⟨?_, ?_, ?_⟩, ?_, ?_⟩ m.cc ?_ (tdV F.cw (m.rc + n) m.tc) (m.rc + n) ⟨?_, t2.2⟩ ?_
        · have := e.rd; show 0 ≤ (sxAt m.L id).rd + n; omega
        · show (sxAt m.L id).rd + n ≤ (sxAt m.L id).cm; omega
        · have := e.rd.2.2; show (sxAt m.L id).rd + n ≤ _; omega
        · have := e.cm; show (sxAt m.L id).cm ≤ tdV _ _ _; omega
        · exact t1.2
        · have := h.cc; show sumS _ - (sxAt m.L id).sn + (sxAt m.L id).sn ≤ _ ∧ _; omega
        · have := h.tc; show sumC m.L - (sxAt m.L id).cm + (sxAt m.L id).cm ≤ tdV _ _ _; omega
        · have := h.rc; omega
    · exact u
  split
  · unfold fend
    split
    · rename_i c1
      obtain ⟨e, q⟩ := h.at' c1.1
      have g : FXI F (i + 1) { m with L := sxSet m.L id { sxAt m.L id with ov := true } } := by
        refine h.setX id { sxAt m.L id with ov := true } c1.1 q ⟨e.sn, e.cr, e.up.rd, e.cm, e.td⟩ m.cc ?_ m.tc m.rc ⟨?_, h.tc.2⟩ u.rc
        · have := h.cc; show sumS _ - (sxAt m.L id).sn + (sxAt m.L id).sn ≤ _ ∧ _; omega
        · have := h.tc; show sumC _ - (sxAt m.L id).cm + (sxAt m.L id).cm ≤ _; omega
      split
      · exact g
      · refine ⟨g.nd, g.mem, g.len, g.op, fun o' => ?_, g.my, fun o' => ?_, g.each, g.cc, g.tc, g.rc⟩
        · have a := g.th o'
          show 0 ≤ m.th o' ∧ m.th o' ≤ updB m.tin (ptO id) _ o'
          replace a : 0 ≤ m.th o' ∧ m.th o' ≤ m.tin o' := a
          by_cases q : o' = ptO id
          · subst q; rw [updB_at]; omega
          · rw [updB_ne _ _ _ _ q]; exact a
        · have a := h.tin o'
          show updB m.tin (ptO id) _ o' ≤ _
          by_cases q : o' = ptO id
          · subst q; rw [updB_at]; omega
          · rw [updB_ne _ _ _ _ q]; omega
    · exact u
  split
  · show FXI F (i + 1) (fdin m n).1
    unfold fdin
    split
    · exact u
    · refine ⟨u.nd, u.mem, u.len, u.op, u.th, u.my, u.tin, u.each, ?_, u.tc, u.rc⟩
      have := u.cc
      show sumS m.L ≤ max m.cc n ∧ max m.cc n ≤ _
      omega
  split
  · show FXI F (i + 1) (fsin F m id n).1
    unfold fsin
    split
    · exact u
    split
    · rename_i c1 c2
      obtain ⟨e, q⟩ := h.at' c2.1
      refine h.setX id { sxAt m.L id with cr := max (sxAt m.L id).cr n } c2.1 q ⟨?_, ?_, e.up.rd, e.cm, e.td⟩ m.cc ?_ m.tc m.rc ⟨?_, h.tc.2⟩ u.rc
      · have := e.sn; show 0 ≤ (sxAt m.L id).sn ∧ (sxAt m.L id).sn ≤ max _ _; omega
      · have := e.cr; show max _ _ ≤ _; omega
      · have := h.cc; show sumS _ - (sxAt m.L id).sn + (sxAt m.L id).sn ≤ _ ∧ _; omega
      · have := h.tc; show sumC _ - (sxAt m.L id).cm + (sxAt m.L id).cm ≤ _; omega
    · exact u
  split
  · show FXI F (i + 1) (fmin m o n).1
    unfold fmin
    split
    · exact u
    · refine ⟨u.nd, u.mem, u.len, fun o' => ?_, u.th, fun o' => ?_, u.tin, u.each, u.cc, u.tc, u.rc⟩
      · have a := u.op o'
        show 0 ≤ m.op o' ∧ m.op o' ≤ updB m.my o _ o' ∧ m.op o' ≤ ((i + 1 : Nat) : Int)
        by_cases q : o' = o
        · subst q; rw [updB_at]; omega
        · rw [updB_ne _ _ _ _ q]; exact a
      · have a := u.my o'
        show updB m.my o _ o' ≤ _
        by_cases q : o' = o
        · subst q; rw [updB_at]; omega
        · rw [updB_ne _ _ _ _ q]; exact a
  · exact u
theorem FXI.zero {F : FS} (hF : fsOK F = true) : FXI F 0 (fx0 F) := by
  simp only [fsOK, decide_eq_true_eq] at hF
  refine ⟨(by simp [fx0]), fun id => ?_, (by simp [fx0]), fun o => ?_, fun o => ?_, fun o => ?_, fun o => ?_, (fun s hs => by cases hs), ?_, ?_, (by simp [fx0])⟩
  · constructor
    · intro h; simp [fx0] at h
    · rintro ⟨o, k, hk, ⟨k1, _⟩ | ⟨k1, _⟩⟩
      · replace k1 : k < 0 := k1; omega
      · replace k1 : k < 0 := k1; omega
  · cases o <;> simp [fx0] <;> omega
  · cases o <;> simp [fx0] <;> omega
  · cases o <;> simp [fx0] <;> omega
  · cases o <;> simp [fx0] <;> omega
  · simp [fx0, sumS]; omega
  · simp [fx0, sumC]; omega
end Go.Proofs.Ythjakbpcpfmbjaa
