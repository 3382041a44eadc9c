import Derived.Test.YtdjflbanbhhniaaDoorRqC
import Derived.Deep.RegionHeld3
import Derived.Deep.CutRange
namespace Go.Proofs.YtdjflbanbhhniaaDoor
open Go.RowKit
set_option linter.unusedVariables false

theorem append_mix {P : Program} {w : World} (tA tB e ty : TypeId) (hA : P.underlying tA = some (.slice e)) (hB : P.underlying tB = some (.slice e)) (v v2 : Value) :
    (Builtin.append_ #[tA, tB] ty #[v, v2]).run P w = (Builtin.append_ #[tA, tA] ty #[v, v2]).run P w := by
  have uA : ∀ u, (underlying tA).run P u = .ok (.slice e) u := fun u => by unfold underlying; simp [go_sem, hA]
  have uB : ∀ u, (underlying tB).run P u = .ok (.slice e) u := fun u => by unfold underlying; simp [go_sem, hB]
  cases v <;> simp [Builtin.append_, uA, uB, go_sem]
theorem step_append_mixQ {w : World} {ops : Array Oper} {o : Oper} {a : Act} {K : Act → World → Prop} {Q : Exit → Act → World → Prop} {E : Prop} (hgd : o.guard = none) (p q : Operand) (tA tB : TypeId) (htA : Tryd.prog.underlying tA = some (.slice 44)) (htB : Tryd.prog.underlying tB = some (.slice 44))
    (ho : o.op = .call { callee := .builtin .append, args := #[p, q], argTypes := #[tA, tB] })
    (base : Nat) (v : Value) (R : List SField) (hp : a.eval p = v) (hown : GOwns 44 2 w base v (SField.L R)) (v2 : Value) (S : List SField) (hq : a.eval q = v2) (hrow : GRow 2 w v2 (SField.L S)) (h63 : R.length + S.length ≤ 1099511627776) (hbase : base ≤ w.heap.size)
    (h : ∀ v' w', GOwns 44 2 w' base v' (SField.L (R ++ S)) → w.grownBy w' v.ownBlock → K (a.put o.dst v') w') :
    if Region.wanted o (yielded ops a.tmps) = true then Oper.wp Tryd.prog o a w K Q else E := by
  have hw : Region.wanted o (yielded ops a.tmps) = true := by simp [Region.wanted, hgd]
  rw [if_pos hw]
  obtain ⟨v', w', hr, h2, h3⟩ := run_append_fieldsQ tA htA o.type base v R hown v2 S hrow h63 hbase
  rw [← append_mix tA tB 44 o.type htA htB] at hr
  unfold Oper.wp
  simp [execOp, ho, resolve, invoke, builtin, hp, hq, hr, Result.andThen]
  exact h v' w' h2 h3
set_option maxRecDepth 20000 in
set_option maxHeartbeats 4000000 in
theorem rqfI (m s a p : ByteArray) (v : Value) (L : List SField) (w : World) (h : GRow 2 w v (SField.L L)) (hR : L.length ≤ 1048576) (hf : fin L) (zm : m.size ≤ 1048576) (zs : s.size ≤ 1048576) (za : a.size ≤ 1048576) (zp : p.size ≤ 1048576) (ht : txs L ≤ 1048576) :
    Calls Tryd.prog 8 #[.agg #[.string m, .string s, .string a, .string p, v]] w fun e w' => ∃ r, e = .returned (.tuple #[r, .int .i64 (rqR m s a p L).2]) ∧ GOwns 44 2 w' w.heap.size r (SField.L (rqR m s a p L).1) ∧ Below w.heap.size w w' := by
  have bA : ∀ u, Below (w.heap.size + 1) (w.alloc (.cells #[.string m, .string s, .string a, .string p, v] 30)) u → Below w.heap.size w u := fun u hu => ((Below.refl w.heap.size w).alloc (Nat.le_refl _) _).trans (hu.mono (by omega))
  have CK := reqI m s a p v L _ (h.below (bA _ (Below.refl _ _))) hR hf (by omega) (by omega) (by omega) (by omega)
  have RW : ∀ u, Below (w.heap.size + 1) (w.alloc (.cells #[.string m, .string s, .string a, .string p, v] 30)) u → GRow 2 u v (SField.L L) := fun u hu => h.below (bA u hu)
  have hro := frow_form h
  cases hK : rqOK m s a p L with
  | false =>
    rw [show rqR m s a p L = ([], 1) by unfold rqR; rw [hK]; rfl]
    rw [hK] at CK
    obtain ⟨ao, cp, rfl⟩ := hro
    obtain ⟨n, en⟩ : ∃ n, n = L.length := ⟨_, rfl⟩
    rw [← en] at CK bA ⊢
    have H : Hid _ := And.intro CK bA
    clear CK bA RW h hR hf en hK zm zs za zp ht
    go_enter Tryd.func8, Tryd.ntmps8
    go_wp2_with fail
    go_at_call 20
    refine H.out.1.mono ?_
    rintro e w1 ⟨rfl, b1⟩
    have B1 := H.out.2 w1 (by simpa using b1)
    have H1 : Hid _ := And.intro B1 (gown_nilR w1 w.heap.size)
    clear b1 B1
    go_wp2
    (try simp only [Exit.inBlock, Exit.then])
    refine bodyPost_ret (results_tmp2 rfl _ _ _) rfl ?_
    exact ⟨_, rfl, H1.out.2, H1.out.1⟩
  | true =>
    rw [show rqR m s a p L = (rqH m s a ++ [⟨paN, p⟩] ++ L, 0) by unfold rqR; rw [hK]; rfl]
    rw [hK] at CK
    have hL60 : L.length ≤ 60 := by
      unfold rqOK mfOK at hK
      simp only [Bool.and_eq_true, decide_eq_true_eq] at hK
      exact hK.2.1
    have CC : ∀ (r : Value) (u : World), GRow 2 u r (SField.L (rqH m s a ++ [⟨paN, p⟩] ++ L)) → _ := fun r u hr => clnI r (rqH m s a ++ [⟨paN, p⟩] ++ L) u hr (by unfold rqH; split <;> simp <;> omega) (fun j hj => by
      have hm : (rqH m s a ++ [(⟨paN, p⟩ : SField)] ++ L).getD j default ∈ rqH m s a ++ [(⟨paN, p⟩ : SField)] ++ L := by
        rw [show (rqH m s a ++ [(⟨paN, p⟩ : SField)] ++ L).getD j default = (rqH m s a ++ [(⟨paN, p⟩ : SField)] ++ L)[j]'hj by simp only [List.getD, List.getElem?_eq_getElem hj, Option.getD_some]]
        exact List.getElem_mem hj
      simp only [List.mem_append, List.mem_singleton] at hm
      generalize (rqH m s a ++ [(⟨paN, p⟩ : SField)] ++ L).getD j default = xx at hm ⊢
      rcases hm with (hm | hm) | hm
      · unfold rqH at hm
        have : ∀ x ∈ [(⟨mtN, m⟩ : SField), ⟨scN, s⟩] ++ [⟨auN, a⟩], x.f0.size ≤ 1048576 ∧ x.f1.size ≤ 1048576 := by
          intro x hx
          simp only [List.cons_append, List.nil_append, List.mem_cons, List.not_mem_nil, or_false] at hx
          rcases hx with rfl | rfl | rfl
          · exact ⟨by show mtN.size ≤ _; decide, zm⟩
          · exact ⟨by show scN.size ≤ _; decide, zs⟩
          · exact ⟨by show auN.size ≤ _; decide, za⟩
        split at hm
        · exact this _ hm
        · exact this _ (List.mem_append_left _ hm)
      · rw [hm]
        exact ⟨by show paN.size ≤ _; decide, zp⟩
      · obtain ⟨i, hi, e⟩ := List.getElem_of_mem hm
        have q := txs_at L i hi
        rw [show L.getD i default = L[i]'hi by simp only [List.getD, List.getElem?_eq_getElem hi, Option.getD_some], e] at q
        omega)
    obtain ⟨ao, cp, rfl⟩ := hro
    have HN : Hid _ := hR
    have HA : Hid (∀ b : Bool, b = decide (0 < a.size) → rqH m s a = if b then [⟨mtN, m⟩, ⟨scN, s⟩] ++ [⟨auN, a⟩] else [⟨mtN, m⟩, ⟨scN, s⟩]) := fun b hb => by unfold rqH; rw [hb]; by_cases q : 0 < a.size <;> simp [q]
    obtain ⟨n, en⟩ : ∃ n, n = L.length := ⟨_, rfl⟩
    rw [← en] at CK bA RW ⊢
    have H : Hid _ := And.intro CK (And.intro bA (And.intro RW CC))
    clear CK bA RW h hR hf en hK zm zs zp CC hL60 ht
    go_enter Tryd.func8, Tryd.ntmps8
    go_wp2_with fail
    go_at_call 20
    refine H.out.1.mono ?_
    rintro e w1 ⟨rfl, b1⟩
    have A1 : Below (w.heap.size + 1) (w.alloc (.cells #[.string m, .string s, .string a, .string p, .slice ao n cp] 30)) w1 := by simpa using b1
    have z1 : w.heap.size + 1 ≤ w1.heap.size := by have := A1.size; simpa using this
    have al : Below w1.heap.size w1 (w1.alloc (.cells #[.string mtN, .string m, .string scN, .string s] 44)) := (Below.refl _ _).alloc (Nat.le_refl _) _
    have A2 := A1.trans (al.mono z1)
    have o2 := (oL2 w1 mtN m scN s).mono (base' := w.heap.size + 1) z1
    obtain ⟨x0, x1, x2, x3, x4⟩ := cel5 A1
    obtain ⟨y0, y1, y2, y3, y4⟩ := cel5 A2
    have zz : (w1.alloc (.cells #[.string mtN, .string m, .string scN, .string s] 44)).heap.size = w1.heap.size + 1 := by simp
    have H1 : Hid _ := And.intro A2 (And.intro o2 (And.intro z1 zz))
    clear b1 A1 al A2 o2 z1 zz
    by_cases ha : 0 < a.size
    · have HE : Hid _ := HA.out true (by simp [ha])
      have hne : a.toList.isEmpty = false := by
        rw [ByteArray.toList_eq, List.isEmpty_eq_false_iff]
        intro q
        have q3 : a.data.toList.length = 0 := by rw [q]; rfl
        rw [Array.length_toList] at q3
        have q2 : a.size = a.data.size := rfl
        omega
      have al3 : Below (w1.alloc (.cells #[.string mtN, .string m, .string scN, .string s] 44)).heap.size (w1.alloc (.cells #[.string mtN, .string m, .string scN, .string s] 44)) ((w1.alloc (.cells #[.string mtN, .string m, .string scN, .string s] 44)).alloc (.cells #[.string auN, .string a] 44)) := (Below.refl _ _).alloc (Nat.le_refl _) _
      have B3 := H1.out.1.trans (al3.mono (by have := H1.out.2.2.1; have := H1.out.2.2.2; omega))
      have P3 := H1.out.2.1.below al3
      have L3 := oL1 (w1.alloc (.cells #[.string mtN, .string m, .string scN, .string s] 44)) auN a
      rw [H1.out.2.2.2] at L3
      have Z3 : w.heap.size + 1 ≤ ((w1.alloc (.cells #[.string mtN, .string m, .string scN, .string s] 44)).alloc (.cells #[.string auN, .string a] 44)).heap.size := Nat.le_trans (by have := H1.out.2.2.1; have := H1.out.2.2.2; omega) al3.size
      obtain ⟨c30, c31, c32, c33, c34⟩ := cel5 B3
      have K3 : Hid _ := And.intro B3 (And.intro P3 (And.intro L3 Z3))
      clear al3 B3 P3 L3 Z3
      go_upto_region 6 with (refine wpList_append_fieldsQ rfl _ _ 45 Tryd.underlying45 rfl (w.heap.size + 1) _ ([⟨mtN, m⟩, ⟨scN, s⟩]) rfl K3.out.2.1 _ [⟨auN, a⟩] rfl K3.out.2.2.1 (by simp) K3.out.2.2.2 ?_; intro v3 w3 o3 g3; have A3 := grow_next K3.out.1 K3.out.2.1 K3.out.2.2.2 g3; have z3 : w.heap.size + 1 ≤ w3.heap.size := (by have := A3.size; simpa using this); clear c30 c31 c32 c33 c34 x0 x1 x2 x3 x4 y0 y1 y2 y3 y4; obtain ⟨y0, y1, y2, y3, y4⟩ := cel5 A3; have H3 : Hid _ := And.intro A3 (And.intro o3 z3); clear A3 o3 g3 z3)
      have al5 : Below w3.heap.size w3 (w3.alloc (.cells #[.string paN, .string p] 44)).drew := ((Below.refl _ _).alloc (Nat.le_refl _) _).trans ((drew_belowQ _).mono (by simp))
      have dr5 : Below w3.heap.size w3 w3.drew := drew_belowQ _
      have B5 := H3.out.1.trans (al5.mono H3.out.2.2)
      have E5 := H3.out.1.trans (dr5.mono H3.out.2.2)
      have P5 := H3.out.2.1.below al5
      have L5 : GRow 2 (w3.alloc (.cells #[.string paN, .string p] 44)).drew (.slice (some ⟨w3.heap.size, 0, none⟩) 1 1) (SField.L [⟨paN, p⟩]) := (oL1 w3 paN p).below (drew_belowQ _)
      have Z5 : w.heap.size + 1 ≤ (w3.alloc (.cells #[.string paN, .string p] 44)).drew.heap.size := Nat.le_trans H3.out.2.2 al5.size
      clear y0 y1 y2 y3 y4
      obtain ⟨c50, c51, c52, c53, c54⟩ := cel5 B5
      obtain ⟨e50, e51, e52, e53, e54⟩ := cel5 E5
      have K5 : Hid _ := And.intro B5 (And.intro P5 (And.intro L5 Z5))
      clear al5 dr5 B5 E5 P5 L5 Z5
      skip
      go_region_held3 (fun w' => w'.cell? ⟨w.heap.size, 3, none⟩ = some (.string p) ∧ w'.cell? ⟨w.heap.size, 4, none⟩ = some (.slice ao n cp)) (go_keep)
        (first
        | (refine step_append_fieldsQ rfl _ _ 45 Tryd.underlying45 rfl (w.heap.size + 1) v3 ([⟨mtN, m⟩, ⟨scN, s⟩] ++ [⟨auN, a⟩]) rfl K5.out.2.1 _ [⟨paN, p⟩] rfl K5.out.2.2.1 (by simp) K5.out.2.2.2 ?_; intro v5 w5 o5 g5; have A5 := grow_next K5.out.1 K5.out.2.1 K5.out.2.2.2 g5; have z5 : w.heap.size + 1 ≤ w5.heap.size := (by have := A5.size; simpa using this); obtain ⟨y0, y1, y2, y3, y4⟩ := cel5 A5; have H5 : Hid _ := And.intro A5 (And.intro o5 z5); clear A5 o5 g5 z5)
        | (refine step_append_mixQ rfl _ _ 45 26 Tryd.underlying45 Tryd.underlying26 rfl (w.heap.size + 1) v5 ([⟨mtN, m⟩, ⟨scN, s⟩] ++ [⟨auN, a⟩] ++ [⟨paN, p⟩]) rfl H5.out.2.1 (.slice ao n cp) L rfl (H.out.2.2.1 _ H5.out.1) (by have := HN.out; simp; omega) H5.out.2.2 ?_; intro v6 w6 o6 g6; have A6 := grow_next H5.out.1 H5.out.2.1 H5.out.2.2 g6; obtain ⟨t0, t1, t2, t3, t4⟩ := cel5 A6; have z6 : w.heap.size + 1 ≤ w6.heap.size := (by have := A6.size; simpa using this); have H6 : Hid _ := And.intro A6 (And.intro o6 z6); clear A6 o6 g6 z6))
      all_goals
        go_wp2_with fail
        go_at_call 21
        refine (H.out.2.2.2 v6 w6 (by rw [HE.out]; exact H6.out.2.1.row)).mono ?_
        rintro e w7 ⟨r7, rfl, o7, b7⟩
        have H7 : Hid _ := And.intro (o7.mono (base' := w.heap.size) (by have := H6.out.2.2; omega)) (H.out.2.1 _ (H6.out.1.trans (b7.mono H6.out.2.2)))
        clear o7 b7
        go_wp2
        (try simp only [Exit.inBlock, Exit.then])
        refine bodyPost_ret (results_tmp2 rfl _ _ _) rfl ?_
        exact ⟨_, rfl, H7.out.1, H7.out.2⟩
    · have HE : Hid _ := HA.out false (by simp [ha])
      have hne : a.toList.isEmpty = true := by
        rw [ByteArray.toList_eq, List.isEmpty_iff]
        exact List.eq_nil_of_length_eq_zero (by rw [Array.length_toList]; have q2 : a.size = a.data.size := rfl; omega)
      have al5 : Below (w1.alloc (.cells #[.string mtN, .string m, .string scN, .string s] 44)).heap.size (w1.alloc (.cells #[.string mtN, .string m, .string scN, .string s] 44)) ((w1.alloc (.cells #[.string mtN, .string m, .string scN, .string s] 44)).alloc (.cells #[.string paN, .string p] 44)).drew := ((Below.refl _ _).alloc (Nat.le_refl _) _).trans ((drew_belowQ _).mono (by simp))
      have dr5 : Below (w1.alloc (.cells #[.string mtN, .string m, .string scN, .string s] 44)).heap.size (w1.alloc (.cells #[.string mtN, .string m, .string scN, .string s] 44)) (w1.alloc (.cells #[.string mtN, .string m, .string scN, .string s] 44)).drew := drew_belowQ _
      have B5 := H1.out.1.trans (al5.mono (by have := H1.out.2.2.1; have := H1.out.2.2.2; omega))
      have E5 := H1.out.1.trans (dr5.mono (by have := H1.out.2.2.1; have := H1.out.2.2.2; omega))
      have P5 := H1.out.2.1.below al5
      have L5 : GRow 2 ((w1.alloc (.cells #[.string mtN, .string m, .string scN, .string s] 44)).alloc (.cells #[.string paN, .string p] 44)).drew (.slice (some ⟨(w1.alloc (.cells #[.string mtN, .string m, .string scN, .string s] 44)).heap.size, 0, none⟩) 1 1) (SField.L [⟨paN, p⟩]) := (oL1 (w1.alloc (.cells #[.string mtN, .string m, .string scN, .string s] 44)) paN p).below (drew_belowQ _)
      rw [H1.out.2.2.2] at L5
      have Z5 : w.heap.size + 1 ≤ ((w1.alloc (.cells #[.string mtN, .string m, .string scN, .string s] 44)).alloc (.cells #[.string paN, .string p] 44)).drew.heap.size := Nat.le_trans (by have := H1.out.2.2.1; have := H1.out.2.2.2; omega) al5.size
      obtain ⟨c50, c51, c52, c53, c54⟩ := cel5 B5
      obtain ⟨e50, e51, e52, e53, e54⟩ := cel5 E5
      have K5 : Hid _ := And.intro B5 (And.intro P5 (And.intro L5 Z5))
      clear al5 dr5 B5 E5 P5 L5 Z5
      go_upto_region 6 with fail
      go_region_held3 (fun w' => w'.cell? ⟨w.heap.size, 3, none⟩ = some (.string p) ∧ w'.cell? ⟨w.heap.size, 4, none⟩ = some (.slice ao n cp)) (go_keep)
        (first
        | (refine step_append_fieldsQ rfl _ _ 45 Tryd.underlying45 rfl (w.heap.size + 1) _ ([⟨mtN, m⟩, ⟨scN, s⟩]) rfl K5.out.2.1 _ [⟨paN, p⟩] rfl K5.out.2.2.1 (by simp) K5.out.2.2.2 ?_; intro v5 w5 o5 g5; have A5 := grow_next K5.out.1 K5.out.2.1 K5.out.2.2.2 g5; have z5 : w.heap.size + 1 ≤ w5.heap.size := (by have := A5.size; simpa using this); obtain ⟨y0, y1, y2, y3, y4⟩ := cel5 A5; have H5 : Hid _ := And.intro A5 (And.intro o5 z5); clear A5 o5 g5 z5)
        | (refine step_append_mixQ rfl _ _ 45 26 Tryd.underlying45 Tryd.underlying26 rfl (w.heap.size + 1) v5 ([⟨mtN, m⟩, ⟨scN, s⟩] ++ [⟨paN, p⟩]) rfl H5.out.2.1 (.slice ao n cp) L rfl (H.out.2.2.1 _ H5.out.1) (by have := HN.out; simp; omega) H5.out.2.2 ?_; intro v6 w6 o6 g6; have A6 := grow_next H5.out.1 H5.out.2.1 H5.out.2.2 g6; obtain ⟨t0, t1, t2, t3, t4⟩ := cel5 A6; have z6 : w.heap.size + 1 ≤ w6.heap.size := (by have := A6.size; simpa using this); have H6 : Hid _ := And.intro A6 (And.intro o6 z6); clear A6 o6 g6 z6))
      all_goals
        go_wp2_with fail
        go_at_call 21
        refine (H.out.2.2.2 v6 w6 (by rw [HE.out]; exact H6.out.2.1.row)).mono ?_
        rintro e w7 ⟨r7, rfl, o7, b7⟩
        have H7 : Hid _ := And.intro (o7.mono (base' := w.heap.size) (by have := H6.out.2.2; omega)) (H.out.2.1 _ (H6.out.1.trans (b7.mono H6.out.2.2)))
        clear o7 b7
        go_wp2
        (try simp only [Exit.inBlock, Exit.then])
        refine bodyPost_ret (results_tmp2 rfl _ _ _) rfl ?_
        exact ⟨_, rfl, H7.out.1, H7.out.2⟩
end Go.Proofs.YtdjflbanbhhniaaDoor
