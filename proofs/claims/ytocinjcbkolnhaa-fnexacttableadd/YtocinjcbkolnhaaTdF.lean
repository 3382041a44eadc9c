import Derived.Test.YtocinjcbkolnhaaTdC
import Derived.Test.YtocinjcbkolnhaaTcW
import Derived.Test.YtocinjcbkolnhaaFdS
import Derived.Deep.RegionHeld3
import Derived.Deep.CutRange
namespace Go.Proofs.Ytocinjcbkolnhaa
open Go.RowKit
set_option linter.unusedVariables false

/-- The table and the field that were handed in, and the table that is told. -/
def T3 (w u : World) (a b c : Int) (s : Value) (fa fc : ByteArray) : Prop :=
  u.heap[w.heap.size]? = some (.cells #[.int .i64 a, .int .i64 b, .int .i64 c, s] 31 (0, 0)) ∧ u.heap[w.heap.size + 1]? = some (.cells #[.string fa, .string fc] 35 (0, 0)) ∧ u.heap[w.heap.size + 2]? = some (.cells #[.int .i64 0, .int .i64 0, .int .i64 0, .slice none 0 0] 31 (0, 0)) ∧ Below w.heap.size w u
theorem T3.new (w : World) (a b c : Int) (s : Value) (fa fc : ByteArray) : T3 w (((w.alloc (.cells #[.int .i64 a, .int .i64 b, .int .i64 c, s] 31)).alloc (.cells #[.string fa, .string fc] 35)).alloc (.cells #[.int .i64 0, .int .i64 0, .int .i64 0, .slice none 0 0] 31)) a b c s fa fc := by
  have := bk_new3 w (.cells #[.int .i64 a, .int .i64 b, .int .i64 c, s] 31) (.cells #[.string fa, .string fc] 35) (.cells #[.int .i64 0, .int .i64 0, .int .i64 0, .slice none 0 0] 31)
  exact ⟨this.1, this.2.1, this.2.2, (((Below.refl _ _).alloc (Nat.le_refl _) _).alloc (by simp) _).alloc (by simp <;> omega) _⟩
theorem T3.lt {w u : World} {a b c : Int} {s : Value} {fa fc : ByteArray} (h : T3 w u a b c s fa fc) : w.heap.size + 2 < u.heap.size := (Array.getElem?_eq_some_iff.1 h.2.2.1).1
theorem T3.next {w u u' : World} {a b c : Int} {s : Value} {fa fc : ByteArray} (h : T3 w u a b c s fa fc) (hb : Below u.heap.size u u') : T3 w u' a b c s fa fc :=
  ⟨(hb.block _ (by have := h.lt; omega)).trans h.1, (hb.block _ (by have := h.lt; omega)).trans h.2.1, (hb.block _ h.lt).trans h.2.2.1, h.2.2.2.trans (hb.mono h.2.2.2.size)⟩
theorem T3.nextB {w u u' : World} {a b c : Int} {s : Value} {fa fc : ByteArray} {B : Nat} (h : T3 w u a b c s fa fc) (hb : Below B u u') (hB : w.heap.size + 2 < B) : T3 w u' a b c s fa fc :=
  ⟨(hb.block _ (by omega)).trans h.1, (hb.block _ (by omega)).trans h.2.1, (hb.block _ hB).trans h.2.2.1, h.2.2.2.trans (hb.mono (by omega))⟩
theorem T3.box {w u : World} {a b c : Int} {s : Value} {fa fc : ByteArray} (h : T3 w u a b c s fa fc) : u.cell? ⟨w.heap.size, 0, none⟩ = some (.int .i64 a) ∧ u.cell? ⟨w.heap.size, 1, none⟩ = some (.int .i64 b) ∧ u.cell? ⟨w.heap.size, 2, none⟩ = some (.int .i64 c) ∧ u.cell? ⟨w.heap.size, 3, none⟩ = some s ∧ u.frozen? ⟨w.heap.size, 2, none⟩ = false ∧ u.frozen? ⟨w.heap.size, 3, none⟩ = false :=
  ⟨by rw [bk_cell h.1]; rfl, by rw [bk_cell h.1]; rfl, by rw [bk_cell h.1]; rfl, by rw [bk_cell h.1]; rfl, bk_free h.1 2, bk_free h.1 3⟩
theorem T3.fld {w u : World} {a b c : Int} {s : Value} {fa fc : ByteArray} (h : T3 w u a b c s fa fc) : u.cell? ⟨w.heap.size + 1, 0, none⟩ = some (.string fa) ∧ u.cell? ⟨w.heap.size + 1, 1, none⟩ = some (.string fc) :=
  ⟨by rw [bk_cell h.2.1]; rfl, by rw [bk_cell h.2.1]; rfl⟩
theorem T3.res {w u : World} {a b c : Int} {s : Value} {fa fc : ByteArray} (h : T3 w u a b c s fa fc) : u.cell? ⟨w.heap.size + 2, 0, none⟩ = some (.int .i64 0) ∧ u.cell? ⟨w.heap.size + 2, 1, none⟩ = some (.int .i64 0) ∧ u.cell? ⟨w.heap.size + 2, 2, none⟩ = some (.int .i64 0) ∧ u.cell? ⟨w.heap.size + 2, 3, none⟩ = some (.slice none 0 0) ∧ u.frozen? ⟨w.heap.size + 2, 0, none⟩ = false ∧ u.frozen? ⟨w.heap.size + 2, 1, none⟩ = false ∧ u.frozen? ⟨w.heap.size + 2, 2, none⟩ = false ∧ u.frozen? ⟨w.heap.size + 2, 3, none⟩ = false :=
  ⟨by rw [bk_cell h.2.2.1]; rfl, by rw [bk_cell h.2.2.1]; rfl, by rw [bk_cell h.2.2.1]; rfl, by rw [bk_cell h.2.2.1]; rfl, bk_free h.2.2.1 0, bk_free h.2.2.1 1, bk_free h.2.2.1 2, bk_free h.2.2.1 3⟩
theorem T3.set2 {w u : World} {a b c : Int} {s : Value} {fa fc : ByteArray} (h : T3 w u a b c s fa fc) (x : Int) : T3 w (u.setCell ⟨w.heap.size, 2, none⟩ (.int .i64 x)) a b x s fa fc :=
  ⟨(bk_set h.1 2 _).trans rfl, (bk_other (by omega) _ _).trans h.2.1, (bk_other (by omega) _ _).trans h.2.2.1, h.2.2.2.setCell (Nat.le_refl _) _⟩
theorem T3.set3 {w u : World} {a b c : Int} {s : Value} {fa fc : ByteArray} (h : T3 w u a b c s fa fc) (r : Value) : T3 w (u.setCell ⟨w.heap.size, 3, none⟩ r) a b c r fa fc :=
  ⟨(bk_set h.1 3 _).trans rfl, (bk_other (by omega) _ _).trans h.2.1, (bk_other (by omega) _ _).trans h.2.2.1, h.2.2.2.setCell (Nat.le_refl _) _⟩
theorem T3.tell {w u : World} {a b c : Int} {s : Value} {fa fc : ByteArray} (h : T3 w u a b c s fa fc) (x y z : Int) (r : Value) :
    ((((u.setCell ⟨w.heap.size + 2, 0, none⟩ (.int .i64 x)).setCell ⟨w.heap.size + 2, 1, none⟩ (.int .i64 y)).setCell ⟨w.heap.size + 2, 2, none⟩ (.int .i64 z)).setCell ⟨w.heap.size + 2, 3, none⟩ r).heap[w.heap.size + 2]? = some (.cells #[.int .i64 x, .int .i64 y, .int .i64 z, r] 31 (0, 0)) ∧
    Below w.heap.size w ((((u.setCell ⟨w.heap.size + 2, 0, none⟩ (.int .i64 x)).setCell ⟨w.heap.size + 2, 1, none⟩ (.int .i64 y)).setCell ⟨w.heap.size + 2, 2, none⟩ (.int .i64 z)).setCell ⟨w.heap.size + 2, 3, none⟩ r) :=
  ⟨(bk_set (bk_set (bk_set (bk_set h.2.2.1 0 _) 1 _) 2 _) 3 _).trans rfl, (((h.2.2.2.setCell (by show w.heap.size ≤ w.heap.size + 2; omega) _).setCell (by show w.heap.size ≤ w.heap.size + 2; omega) _).setCell (by show w.heap.size ≤ w.heap.size + 2; omega) _).setCell (by show w.heap.size ≤ w.heap.size + 2; omega) _⟩
theorem step_append_fields {w : World} {ops : Array Oper} {o : Oper} {a : Act} {K : Act → World → Prop} {Q : Exit → Act → World → Prop} {E : Prop} (hgd : o.guard = none) (p q : Operand)
    (ho : o.op = .call { callee := .builtin .append, args := #[p, q], argTypes := #[29, 29] })
    (base : Nat) (v : Value) (R : List SField) (hp : a.eval p = v) (hown : GOwns 35 2 w base v (SField.L R)) (v2 : Value) (S : List SField) (hq : a.eval q = v2) (hrow : GRow 2 w v2 (SField.L S)) (h63 : R.length + S.length ≤ 1099511627776) (hbase : base ≤ w.heap.size)
    (h : ∀ v' w', GOwns 35 2 w' base v' (SField.L (R ++ S)) → w.grownBy w' v.ownBlock → K (a.put o.dst v') w') :
    if Region.wanted o (yielded ops a.tmps) = true then Oper.wp Try.prog o a w K Q else E := by
  have hw : Region.wanted o (yielded ops a.tmps) = true := by simp [Region.wanted, hgd]
  rw [if_pos hw]
  obtain ⟨v', w', hr, h2, h3⟩ := run_append_fields o.type base v R hown v2 S hrow h63 hbase
  unfold Oper.wp
  simp [execOp, ho, resolve, invoke, builtin, hp, hq, hr, Result.andThen]
  exact h v' w' h2 h3
/-- A literal of one field. -/
theorem lit_field (w : World) (fa fc : ByteArray) : GRow 2 (w.alloc (.cells #[.string fa, .string fc] 35)) (.slice (some ⟨w.heap.size, 0, none⟩) 1 1) (SField.L [⟨fa, fc⟩]) := by
  refine Or.inr ⟨w.heap.size, 0, 1, rfl, by simp, fun j hj f hf => ?_⟩
  obtain rfl : j = 0 := by simpa using hj
  have k := heap_alloc_new w (.cells #[.string fa, .string fc] 35)
  obtain rfl | rfl : f = 0 ∨ f = 1 := by omega
  · exact bk_cell k 0
  · exact bk_cell k 1
/-- The load of the entries, under a name of its own: the region's walk branches over it like over a call. -/
def taLoad : Op := Op.load 29 (.tmp 26)
theorem taLoad_eq : Op.load 29 (.tmp 26) = taLoad := rfl
set_option maxRecDepth 20000 in
set_option maxHeartbeats 40000000 in
theorem taS (t : TB) (s : Value) (a c : ByteArray) (w : World) (hr : GRow 2 w s (SField.L t.es)) (hn : t.es.length ≤ 1048576) (ht : txs t.es + a.size + c.size ≤ 1048576) :
    Calls Try.prog 6 #[tV t s, .agg #[.string a, .string c]] w fun e w' => ∃ r, e = .returned (.tuple #[tV (taR t a c).1 r, .int .i64 (taR t a c).2]) ∧ GOwns 35 2 w' w.heap.size r (SField.L (taR t a c).1.es) ∧ Below w.heap.size w w' := by
  have T0 := T3.new w t.mo t.ca t.ad s a c
  have h0 := txs_nn t.es
  have CT : ∀ u, Below w.heap.size w u → _ := fun u hb => tokS t s u (hr.below hb) hn (by omega)
  have CV : ∀ u, _ := fun u => fieldS a c u (by omega) (by omega)
  have CC : ∀ u, _ := fun u => costS ⟨a, c⟩ u (by show (a.size : Int) + c.size ≤ 1048576; omega)
  have CF : ∀ x u, Below w.heap.size w u → _ := fun x u hb => fitS x s t.es u (hr.below hb) hn (by omega)
  have hlo := cst_lo ⟨a, c⟩
  have hhi : cst ⟨a, c⟩ ≤ 2000000 := by unfold cst; simp only; omega
  obtain ⟨ao, cp, rfl⟩ := frow_form hr
  obtain ⟨K, eK⟩ : ∃ K, K = tOK t := ⟨_, rfl⟩
  obtain ⟨V, eV⟩ : ∃ V, V = fOK a c := ⟨_, rfl⟩
  obtain ⟨D, eD⟩ : ∃ D, D = cst ⟨a, c⟩ := ⟨_, rfl⟩
  have hR : taR t a c = if K = false ∨ V = false ∨ t.ad = 4611686018427387902 then (⟨0, 0, 0, []⟩, 1) else if t.ca < D then (⟨0, 0, 0, []⟩, 16) else (⟨t.mo, t.ca, t.ad + 1, t.es.drop (gng (t.ca - D) t.es) ++ [⟨a, c⟩]⟩, 0) := by rw [eK, eV, eD]; rfl
  have hnu : K = true → t.nums := fun h => (tg_len t (by rw [← eK]; exact h)).1
  rw [← eK] at CT
  rw [← eV] at CV
  rw [← eD] at CC hlo hhi
  by_cases hbad : K = false ∨ V = false ∨ t.ad = 4611686018427387902
  · rw [if_pos hbad] at hR
    rw [hR]
    obtain ⟨n, en⟩ : ∃ n, n = t.es.length := ⟨_, rfl⟩
    rw [← en] at CT T0 ⊢
    have H : Hid _ := And.intro CT (And.intro T0 CV)
    clear CT T0 CF CC CV hr hn ht eK eV eD hR hnu en hlo hhi h0
    obtain ⟨mo, ca, ad, es⟩ := t
    unfold tV at *
    simp only at *
    go_enter Try.func6, Try.ntmps6
    go_wp2_with fail
    go_at_call 14
    refine (H.out.1 _ H.out.2.1.2.2.2).mono ?_
    rintro e w1 ⟨rfl, b1⟩
    have T1 := H.out.2.1.next b1
    obtain ⟨q0, q1, q2, q3, k2, k3⟩ := T1.box
    obtain ⟨x0, x1⟩ := T1.fld
    obtain ⟨y0, y1, y2, y3, f0, f1, f2, f3⟩ := T1.res
    have H1 : Hid _ := And.intro T1 True.intro
    clear b1 T1
    cases K with
    | false =>
      clear hbad
      go_wp2
      try simp only [Exit.inBlock, Exit.then]
      refine bodyPost_ret (v := .tuple #[.agg #[.int .i64 0, .int .i64 0, .int .i64 0, .slice none 0 0], .int .i64 1]) ?_ rfl ?_
      · exact results_rt (ty := 31) rfl _ _ (w.heap.size + 2) 31 _ (0, 0) _ _ rfl rfl (H1.out.1.tell 0 0 0 (.slice none 0 0)).1 Try.underlying31 rfl infoTab
      · exact ⟨_, rfl, gown_nil _ _, (H1.out.1.tell 0 0 0 (.slice none 0 0)).2⟩
    | true =>
      go_wp2_with fail
      go_at_call 15
      refine (H.out.2.2 _).mono ?_
      rintro e w2 ⟨rfl, b2⟩
      have T2' := H1.out.1.next b2
      clear q0 q1 q2 q3 k2 k3 x0 x1 y0 y1 y2 y3 f0 f1 f2 f3
      obtain ⟨q0, q1, q2, q3, k2, k3⟩ := T2'.box
      obtain ⟨y0, y1, y2, y3, f0, f1, f2, f3⟩ := T2'.res
      have H2 : Hid _ := And.intro T2' True.intro
      clear b2 T2'
      cases V with
      | false =>
        clear hbad
        go_wp2
        try simp only [Exit.inBlock, Exit.then]
        refine bodyPost_ret (v := .tuple #[.agg #[.int .i64 0, .int .i64 0, .int .i64 0, .slice none 0 0], .int .i64 1]) ?_ rfl ?_
        · exact results_rt (ty := 31) rfl _ _ (w.heap.size + 2) 31 _ (0, 0) _ _ rfl rfl (H2.out.1.tell 0 0 0 (.slice none 0 0)).1 Try.underlying31 rfl infoTab
        · exact ⟨_, rfl, gown_nil _ _, (H2.out.1.tell 0 0 0 (.slice none 0 0)).2⟩
      | true =>
        have hmax : ad = 4611686018427387902 := by rcases hbad with h | h | h; cases h; cases h; exact h
        clear hbad
        have e2 : (ad == 4611686018427387902) = true := by simp [hmax]
        go_wp2
        try simp only [Exit.inBlock, Exit.then]
        refine bodyPost_ret (v := .tuple #[.agg #[.int .i64 0, .int .i64 0, .int .i64 0, .slice none 0 0], .int .i64 1]) ?_ rfl ?_
        · exact results_rt (ty := 31) rfl _ _ (w.heap.size + 2) 31 _ (0, 0) _ _ rfl rfl (H2.out.1.tell 0 0 0 (.slice none 0 0)).1 Try.underlying31 rfl infoTab
        · exact ⟨_, rfl, gown_nil _ _, (H2.out.1.tell 0 0 0 (.slice none 0 0)).2⟩
  · rw [if_neg hbad] at hR
    have hK : K = true := by cases K with
      | true => rfl
      | false => exact absurd (Or.inl rfl) hbad
    have hV : V = true := by cases V with
      | true => rfl
      | false => exact absurd (Or.inr (Or.inl rfl)) hbad
    have hM : ¬ (t.ad = 4611686018427387902) := fun h => hbad (Or.inr (Or.inr h))
    obtain ⟨a1, a2, a3, a4, a5, a6⟩ := hnu hK
    have ad0 : 0 ≤ t.ad := by omega
    subst hK
    subst hV
    have e2 : (t.ad == 4611686018427387902) = false := by simp [hM]
    obtain ⟨n, en⟩ : ∃ n, n = t.es.length := ⟨_, rfl⟩
    rw [← en] at CT T0 CF ⊢
    have HN : Hid _ := And.intro en (And.intro hn True.intro)
    have H : Hid _ := And.intro CT (And.intro T0 (And.intro CV (And.intro CC CF)))
    have HR : Hid _ := And.intro hR True.intro
    clear CT T0 CF CC CV hr hn ht eK eV eD hR hnu en h0 hbad a5
    obtain ⟨mo, ca, ad, es⟩ := t
    unfold tV at *
    simp only at *
    go_enter Try.func6, Try.ntmps6
    go_wp2_with fail
    go_at_call 14
    refine (H.out.1 _ H.out.2.1.2.2.2).mono ?_
    rintro e w1 ⟨rfl, b1⟩
    have T1 := H.out.2.1.next b1
    obtain ⟨q0, q1, q2, q3, k2, k3⟩ := T1.box
    obtain ⟨x0, x1⟩ := T1.fld
    have H1 : Hid _ := And.intro T1 True.intro
    clear b1 T1
    go_wp2_with fail
    go_at_call 15
    refine (H.out.2.2.1 _).mono ?_
    rintro e w2 ⟨rfl, b2⟩
    have T2' := H1.out.1.next b2
    have bd2 : Below w2.heap.size w2 w2.drew := below_drewN (Below.refl _ _) 1
    have T2d := T2'.next bd2
    clear q0 q1 q2 q3 k2 k3 x0 x1
    obtain ⟨q0, q1, q2, q3, k2, k3⟩ := T2'.box
    have d1 := T2d.box.2.1
    obtain ⟨x0, x1⟩ := T2d.fld
    have H2 : Hid _ := And.intro T2' (And.intro T2d bd2)
    clear b2 T2' T2d bd2
    go_upto_region 3 with fail
    go_cut [24] from 20 to 24 (fun cv wx => cv = .bool (decide (ca < D)) ∧ Below w2.heap.size w2 wx)
    case first =>
      go_region_held3 (fun w' => w'.cell? ⟨w.heap.size + 1, 0, none⟩ = some (.string a) ∧ w'.cell? ⟨w.heap.size + 1, 1, none⟩ = some (.string c) ∧ w'.cell? ⟨w.heap.size, 1, none⟩ = some (.int .i64 ca)) (go_keep)
        (first
        | (go_at_call 16; refine (H.out.2.2.2.1 _).mono ?_; rintro e w3 ⟨rfl, b3⟩; have T33 := H2.out.2.1.next b3; obtain ⟨z0, z1⟩ := T33.fld; have z2 := T33.box.2.1; have H3 : Hid _ := And.intro (H2.out.2.2.trans (b3.mono H2.out.2.2.size)) True.intro; clear b3 T33))
      all_goals (go_wp2_with fail; go_meet; exact ⟨rfl, H3.out.1⟩)
    case rest =>
    obtain ⟨rfl, bc⟩ := hcut
    have TC := H2.out.1.next bc
    clear q0 q1 q2 q3 k2 k3 x0 x1 d1
    obtain ⟨y0, y1, y2, y3, f0, f1, f2, f3⟩ := TC.res
    have HC : Hid _ := And.intro TC True.intro
    clear bc TC
    by_cases hca : ca < D
    · have HE : Hid _ := And.intro (show taR ⟨mo, ca, ad, es⟩ a c = (⟨0, 0, 0, []⟩, 16) by rw [HR.out.1, if_pos hca]) True.intro
      go_wp2
      try simp only [Exit.inBlock, Exit.then]
      rw [HE.out.1]
      refine bodyPost_ret (v := .tuple #[.agg #[.int .i64 0, .int .i64 0, .int .i64 0, .slice none 0 0], .int .i64 16]) ?_ rfl ?_
      · exact results_rt (ty := 31) rfl _ _ (w.heap.size + 2) 31 _ (0, 0) _ _ rfl rfl (HC.out.1.tell 0 0 0 (.slice none 0 0)).1 Try.underlying31 rfl infoTab
      · exact ⟨_, rfl, gown_nil _ _, (HC.out.1.tell 0 0 0 (.slice none 0 0)).2⟩
    · obtain ⟨E, eE⟩ : ∃ E, E = es.drop (gng (ca - D) es) := ⟨_, rfl⟩
      have hEl : E.length ≤ 1048576 := by rw [eE, List.length_drop]; have := HN.out.1; have := HN.out.2.1; omega
      have HE : Hid _ := And.intro (show taR ⟨mo, ca, ad, es⟩ a c = (⟨mo, ca, ad + 1, E ++ [⟨a, c⟩]⟩, 0) by rw [HR.out.1, if_neg hca, eE]) (And.intro eE hEl)
      clear eE hEl y0 y1 y2 y3 f0 f1 f2 f3
      rw [show decide (ca < D) = false from decide_eq_false hca]
      have HW : Hid (IntKind.i64.wrap (ca - D) = ca - D) := by
        show IntKind.i64.wrap (ca - D) = ca - D
        simp [IntKind.wrap, IntKind.bits, IntKind.signed]
        omega
      have bdc : Below wc.heap.size wc wc.drew := below_drewN (Below.refl _ _) 1
      have bac : Below wc.heap.size wc (wc.alloc (.cells #[.string a, .string c] 35)).drew := below_drewN ((Below.refl _ _).alloc (Nat.le_refl _) _) 1
      have TA := HC.out.1.next bdc
      have TB' := HC.out.1.next bac
      obtain ⟨q0, q1, q2, q3, k2, k3⟩ := TA.box
      obtain ⟨x0, x1⟩ := TA.fld
      obtain ⟨q0', q1', q2', q3', k2', k3'⟩ := TB'.box
      obtain ⟨x0', x1'⟩ := TB'.fld
      have HU : Hid _ := And.intro TA (And.intro TB' True.intro)
      clear bdc bac TA TB'
      go_upto_region 5 with fail
      go_cut [] from 26 to 37 (fun wx => ∃ r, T3 w wx mo ca ad r a c ∧ GOwns 35 2 wx (w.heap.size + 3) r (SField.L (E ++ [⟨a, c⟩])))
      case first =>
        rw [taLoad_eq]
        have hTL : taLoad = Op.load 29 (.tmp 26) := rfl
        go_region_held3 (fun w' => w'.cell? ⟨w.heap.size + 1, 0, none⟩ = some (.string a) ∧ w'.cell? ⟨w.heap.size + 1, 1, none⟩ = some (.string c) ∧ w'.cell? ⟨w.heap.size, 1, none⟩ = some (.int .i64 ca)) (go_keep)
          (first
          | (go_at_call 16; refine (H.out.2.2.2.1 _).mono ?_; rintro e w3 ⟨rfl, b3⟩; have H3 : Hid (T3 w w3 mo ca ad (.slice ao n cp) a c) := (by first | exact HU.out.1.next b3 | exact HU.out.2.1.next b3); have al3 : Below w3.heap.size w3 (w3.alloc (.cells #[.string a, .string c] 35)) := (Below.refl _ _).alloc (Nat.le_refl _) _; obtain ⟨z0, z1, z2, z3, zk2, zk3⟩ := H3.out.box; obtain ⟨zx0, zx1⟩ := H3.out.fld; obtain ⟨z0', z1', z2', z3', zk2', zk3'⟩ := (H3.out.next al3).box; obtain ⟨zx0', zx1'⟩ := (H3.out.next al3).fld; have B3 : Hid _ := And.intro b3 al3; clear b3 al3)
          | (go_at_call 17; rw [HW.out]; refine (H.out.2.2.2.2 (ca - D) _ (by first | exact H3.out.2.2.2 | exact (H3.out.next B3.out.2).2.2.2)).mono ?_; rintro e w4 ⟨r4, rfl, o4, b4⟩; have T4 : T3 w w4 mo ca ad (.slice ao n cp) a c := (by first | exact H3.out.next b4 | exact (H3.out.next B3.out.2).next b4); have o4' : GOwns 35 2 w4 (w.heap.size + 3) r4 (SField.L (es.drop (gng (ca - D) es))) := o4.mono (by have := H3.out.lt; first | omega | (simp; omega)); have al4 : Below w4.heap.size w4 (w4.alloc (.cells #[.string a, .string c] 35)) := (Below.refl _ _).alloc (Nat.le_refl _) _; obtain ⟨v0, v1, v2, v3, vk2, vk3⟩ := T4.box; obtain ⟨vx0, vx1⟩ := T4.fld; obtain ⟨v0', v1', v2', v3', vk2', vk3'⟩ := (T4.next al4).box; obtain ⟨vx0', vx1'⟩ := (T4.next al4).fld; have H4 : Hid _ := And.intro T4 (And.intro o4' (And.intro b4 al4)); clear T4 o4 o4' b4 al4)
          | (refine step_append_fields rfl _ _ rfl (w.heap.size + 3) _ (es.drop (gng (ca - D) es)) rfl (by first | exact H4.out.2.1 | exact H4.out.2.1.below H4.out.2.2.2) _ [⟨a, c⟩] rfl (by first | exact lit_field w4 a c | exact (lit_field w3 a c).below H4.out.2.2.1 | exact ((show GRow 2 (wc.alloc (.cells #[.string a, .string c] 35)).drew _ _ from lit_field wc a c).below B3.out.1).below H4.out.2.2.1) (by have := HE.out.2.2; rw [← HE.out.2.1]; simp; omega) (by have := H4.out.1.lt; first | omega | (simp; omega)) ?_; intro v5 w5 o5 g5; have T5 : T3 w w5 mo ca ad (.slice ao n cp) a c := (by first | exact H4.out.1.nextB ((Below.refl (w.heap.size + 3) w4).grown g5 (by have := H4.out.1.lt; omega) (fun q e => by obtain ⟨zs, hoo, _⟩ := H4.out.2.1; exact (hoo.lt q e).1)) (by omega) | exact (H4.out.1.next H4.out.2.2.2).nextB ((Below.refl (w.heap.size + 3) _).grown g5 (by have := H4.out.1.lt; simp; omega) (fun q e => by obtain ⟨zs, hoo, _⟩ := H4.out.2.1; exact (hoo.lt q e).1)) (by omega)); obtain ⟨u0, u1, u2, u3, uk2, uk3⟩ := T5.box; have uu1 : ∀ v, (w5.setCell ⟨w.heap.size, 3, none⟩ v).cell? ⟨w.heap.size, 1, none⟩ = some (.int .i64 ca) := fun v => (T5.set3 v).box.2.1; obtain ⟨ux0, ux1⟩ := T5.fld; obtain ⟨av, cv5, ev5, _⟩ := o5.formF; obtain ⟨m5, em5⟩ : ∃ m5, m5 = (es.drop (gng (ca - D) es) ++ [(⟨a, c⟩ : SField)]).length := ⟨_, rfl⟩; rw [← em5] at ev5; clear em5; subst ev5; have H5 : Hid _ := And.intro T5 o5; clear T5 o5 g5))
        all_goals
          go_wp2_with fail
          go_meet
          refine ⟨_, H5.out.1.set3 _, ?_⟩
          rw [HE.out.2.1]
          exact gown_set H5.out.2 (g := w.heap.size) (by omega)
      case rest =>
      obtain ⟨r, tr, orr⟩ := hcut
      obtain ⟨ra, rc, er, _⟩ := orr.formF
      obtain ⟨m, em⟩ : ∃ m, m = (E ++ [(⟨a, c⟩ : SField)]).length := ⟨_, rfl⟩
      rw [← em] at er
      subst er
      clear em q0 q1 q2 q3 k2 k3 x0 x1 q0' q1' q2' q3' k2' k3' x0' x1'
      obtain ⟨p0, p1, p2, p3, j2, j3⟩ := tr.box
      obtain ⟨y0, y1, y2, y3, f0, f1, f2, f3⟩ := tr.res
      have HS : Hid _ := And.intro (tr.set2 (ad + 1)) orr
      clear tr orr
      have had : ad + 1 ≤ 9223372036854775807 := by omega
      go_wp2
      try simp only [Exit.inBlock, Exit.then]
      rw [HE.out.1]
      refine bodyPost_ret (v := .tuple #[.agg #[.int .i64 mo, .int .i64 ca, .int .i64 (ad + 1), .slice ra m rc], .int .i64 0]) ?_ rfl ?_
      · exact results_rt (ty := 31) rfl _ _ (w.heap.size + 2) 31 _ (0, 0) _ _ rfl rfl (HS.out.1.tell mo ca (ad + 1) (.slice ra m rc)).1 Try.underlying31 rfl infoTab
      · exact ⟨_, rfl, (gown_set (gown_set (gown_set (gown_set (gown_set HS.out.2 (g := w.heap.size) (by omega)) (g := w.heap.size + 2) (by omega)) (g := w.heap.size + 2) (by omega)) (g := w.heap.size + 2) (by omega)) (g := w.heap.size + 2) (by omega)).mono (by omega), (HS.out.1.tell mo ca (ad + 1) (.slice ra m rc)).2⟩
end Go.Proofs.Ytocinjcbkolnhaa
