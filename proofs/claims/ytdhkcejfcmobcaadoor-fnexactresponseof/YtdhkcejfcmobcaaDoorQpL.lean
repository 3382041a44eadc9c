import Derived.Test.YtdhkcejfcmobcaaDoorQpK
import Derived.Test.YtdhkcejfcmobcaaDoorQpH
import Derived.Test.YtdhkcejfcmobcaaDoorItoaP
namespace Go.Proofs.YtdhkcejfcmobcaaDoor
open Go.RowKit
set_option linter.unusedVariables false

theorem thr_itoa (n : Int) (h0 : 100 ≤ n) (h1 : n ≤ 599) : (⟨(Lib.itoa n).toArray⟩ : ByteArray) = thr n := by
  obtain ⟨m, rfl⟩ : ∃ m : Nat, n = (m : Int) := ⟨n.toNat, by omega⟩
  unfold Lib.itoa thr strOfNums
  rw [if_neg (by omega)]
  rw [show ((m : Int)).toNat = m by omega]
  rw [Lib.decDigits, dif_neg (by omega), Lib.decDigits, dif_neg (by omega), Lib.decDigits, dif_pos (by omega)]
  have e0 : (48 + (m : Int) / 100).toNat = 48 + m / 10 / 10 := by omega
  have e1 : (48 + (m : Int) / 10 % 10).toNat = 48 + m / 10 % 10 := by omega
  have e2 : (48 + (m : Int) % 10).toNat = 48 + m % 10 := by omega
  simp only [List.map_cons, List.map_nil, e0, e1, e2, List.cons_append, List.nil_append]
theorem append_mixed {P : Program} {w : World} (tA tB e ty : TypeId) (hA : P.underlying tA = some (.slice e)) (hB : P.underlying tB = some (.slice e)) (v v2 : Value) :
    (Builtin.append_ #[tA, tB] ty #[v, v2]).run P w = (Builtin.append_ #[tA, tA] ty #[v, v2]).run P w := by
  have uA : ∀ u, (underlying tA).run P u = .ok (.slice e) u := fun u => by unfold underlying; simp [go_sem, hA]
  have uB : ∀ u, (underlying tB).run P u = .ok (.slice e) u := fun u => by unfold underlying; simp [go_sem, hB]
  cases v <;> simp [Builtin.append_, uA, uB, go_sem]
theorem gown_nilQ (w : World) (base : Nat) : GOwns 45 2 w base (.slice none 0 0) (SField.L []) := ⟨[], ⟨rfl, Or.inl ⟨rfl, rfl⟩⟩, fun j hj => by simp [SField.L] at hj⟩
theorem wpList_append_mixedQ {w : World} {ops : Array Oper} {rest : List Oper} {o : Oper} {a : Act} {Q : Exit → Act → World → Prop} (hgd : o.guard = none) (p q : Operand) (tA tB : TypeId) (htA : Tryd.prog.underlying tA = some (.slice 45)) (htB : Tryd.prog.underlying tB = some (.slice 45))
    (ho : o.op = .call { callee := .builtin .append, args := #[p, q], argTypes := #[tA, tB] })
    (base : Nat) (v : Value) (R : List SField) (hp : a.eval p = v) (hown : GOwns 45 2 w base v (SField.L R)) (v2 : Value) (S : List SField) (hq : a.eval q = v2) (hrow : GRow 2 w v2 (SField.L S)) (h63 : R.length + S.length ≤ 1099511627776) (hbase : base ≤ w.heap.size)
    (h : ∀ v' w', GOwns 45 2 w' base v' (SField.L (R ++ S)) → w.grownBy w' v.ownBlock → wpList Tryd.prog ops Q rest (a.put o.dst v') w') :
    wpList Tryd.prog ops Q (o :: rest) a w := by
  obtain ⟨v', w', hr, h2, h3⟩ := run_append_fieldsQ tA htA o.type base v R hown v2 S hrow h63 hbase
  rw [← append_mixed tA tB 45 o.type htA htB] at hr
  refine wpList_plain hgd fun K hK => ?_
  unfold Oper.wp
  simp [execOp, ho, resolve, invoke, builtin, hp, hq, hr, Result.andThen]
  exact hK _ _ (h v' w' h2 h3)
set_option maxRecDepth 20000 in
set_option maxHeartbeats 4000000 in
theorem rfI (st : Int) (v : Value) (L : List SField) (w : World) (h : GRow 2 w v (SField.L L)) (hR : L.length ≤ 1048576) (hf : fin L) (ht : txs L ≤ 1048576) (htab : Lib.TabBelow Tryd.prog w.heap.size w "internal/strconv.uint64pow10" .u64 Lib.pow10Tab) :
    Calls Tryd.prog 8 #[.agg #[.int .i64 st, v]] w fun e w' => ∃ r, e = .returned (.tuple #[r, .int .i64 (rfR st L).2]) ∧ GOwns 45 2 w' w.heap.size r (SField.L (rfR st L).1) ∧ Below w.heap.size w w' := by
  have bA : ∀ u, Below (w.heap.size + 1) (w.alloc (.cells #[.int .i64 st, v] 30)) u → Below w.heap.size w u := fun u hu => ((Below.refl w.heap.size w).alloc (Nat.le_refl _) _).trans (hu.mono (by omega))
  have CK := rsI st v L _ (h.below (bA _ (Below.refl _ _))) hR hf
  have RW : ∀ u, Below (w.heap.size + 1) (w.alloc (.cells #[.int .i64 st, v] 30)) u → GRow 2 u v (SField.L L) := fun u hu => h.below (bA u hu)
  have hro := frow_form h
  cases hK : rsOK st L with
  | false =>
    rw [show rfR st L = ([], 1) by unfold rfR; rw [hK]; rfl]
    rw [hK] at CK
    obtain ⟨ao, cp, rfl⟩ := hro
    obtain ⟨n, en⟩ : ∃ n, n = L.length := ⟨_, rfl⟩
    rw [← en] at CK bA ⊢
    have H : Hid _ := And.intro CK bA
    clear CK bA RW h hR hf en hK ht htab
    go_enter Tryd.func8, Tryd.ntmps8
    go_wp2_with fail
    go_at_call 21
    refine H.out.1.mono ?_
    rintro e w1 ⟨rfl, b1⟩
    have B1 := H.out.2 w1 (by simpa using b1)
    have H1 : Hid _ := And.intro B1 True.intro
    clear b1 B1
    go_wp2
    (try simp only [Exit.inBlock, Exit.then])
    refine bodyPost_ret (results_tmp2 rfl _ _ _) rfl ?_
    exact ⟨_, rfl, gown_nilQ _ _, H1.out.1⟩
  | true =>
    rw [show rfR st L = ([⟨stN, thr st⟩] ++ L, 0) by unfold rfR; rw [hK]; rfl]
    rw [hK] at CK
    have hst : 100 ≤ st ∧ st ≤ 599 := by
      unfold rsOK at hK
      simp only [Bool.and_eq_true, decide_eq_true_eq] at hK
      exact hK.1
    have hL60 : L.length ≤ 60 := by
      unfold rsOK mfOK at hK
      simp only [Bool.and_eq_true, decide_eq_true_eq] at hK
      exact hK.2.1
    have CT : ∀ u, Below w.heap.size w u → _ := fun u hu => itoaQ st (by omega) (by omega) u (htab u hu)
    rw [thr_itoa st hst.1 hst.2] at CT
    obtain ⟨X, eX⟩ : ∃ X, X = thr st := ⟨_, rfl⟩
    have hX : X.size ≤ 1048576 := by rw [eX]; show ([_, _, _].map _).toArray.size ≤ _; simp
    rw [← eX] at CT ⊢
    have CC : ∀ (r : Value) (u : World), GRow 2 u r (SField.L ([⟨stN, X⟩] ++ L)) → _ := fun r u hr => clnI r ([⟨stN, X⟩] ++ L) u hr (by simp; omega) (fun j hj => by
      cases j with
      | zero => exact ⟨by show stN.size ≤ _; decide, hX⟩
      | succ j =>
        have := txs_at L j (by simpa using hj)
        rw [show ([(⟨stN, X⟩ : SField)] ++ L).getD (j + 1) default = L.getD j default by simp [List.getD]]
        omega)
    obtain ⟨ao, cp, rfl⟩ := hro
    have HN : Hid _ := And.intro hR True.intro
    obtain ⟨n, en⟩ : ∃ n, n = L.length := ⟨_, rfl⟩
    rw [← en] at CK bA RW ⊢
    have H : Hid _ := And.intro CK (And.intro bA (And.intro RW (And.intro CT CC)))
    clear CK bA RW CT CC h hR hf en hK hst eX hL60 ht htab hX
    go_enter Tryd.func8, Tryd.ntmps8
    go_wp2_with fail
    go_at_call 21
    refine H.out.1.mono ?_
    rintro e w1 ⟨rfl, b1⟩
    have A1 : Below (w.heap.size + 1) (w.alloc (.cells #[.int .i64 st, .slice ao n cp] 30)) w1 := by simpa using b1
    have hz : w.heap.size + 1 ≤ w1.heap.size := by have := A1.size; simpa using this
    obtain ⟨y0, y1⟩ := cel2 A1
    have H1 : Hid _ := And.intro A1 hz
    clear b1 A1 hz
    go_wp2_with fail
    go_at_call 22
    refine (H.out.2.2.2.1 _ (H.out.2.1 _ H1.out.1)).mono ?_
    rintro e w3 ⟨rfl, b3⟩
    have A3 := H1.out.1.trans (b3.mono H1.out.2)
    have hz3 : w.heap.size + 1 ≤ w3.heap.size := Nat.le_trans H1.out.2 b3.size
    have al : Below w3.heap.size w3 (w3.alloc (.cells #[.string stN, .string X] 45)) := (Below.refl _ _).alloc (Nat.le_refl _) _
    have A4 := A3.trans (al.mono hz3)
    obtain ⟨t0, t1⟩ := cel2 A4
    have H3 : Hid _ := And.intro A4 hz3
    clear b3 A3 A4 al hz3 y0 y1
    go_wp2_with (refine wpList_append_mixedQ rfl _ _ 46 26 Tryd.underlying46 Tryd.underlying26 rfl w3.heap.size _ [⟨stN, X⟩] rfl (own_lit1 w3 stN X) (.slice ao n cp) L rfl (H.out.2.2.1 _ H3.out.1) (by have := HN.out.1; simp; omega) (by simp) ?_; intro v5 w5 o5 g5)
    have A5 := H3.out.1.grown g5 (by have := H3.out.2; simp; omega) (fun q e => by have : w3.heap.size = q := Option.some.inj e; have := H3.out.2; omega)
    have hz5 : w.heap.size + 1 ≤ w5.heap.size := by have := A5.size; simpa using this
    have H5 : Hid _ := And.intro A5 (And.intro o5 hz5)
    clear A5 o5 g5 hz5
    go_wp2_with fail
    go_at_call 23
    refine (H.out.2.2.2.2 _ _ H5.out.2.1.row).mono ?_
    rintro e w6 ⟨r6, rfl, o6, b6⟩
    have H6 : Hid _ := And.intro (o6.mono (base' := w.heap.size) (by have := H5.out.2.2; omega)) (H.out.2.1 _ (H5.out.1.trans (b6.mono H5.out.2.2)))
    clear o6 b6
    go_wp2
    (try simp only [Exit.inBlock, Exit.then])
    refine bodyPost_ret (results_tmp2 rfl _ _ _) rfl ?_
    exact ⟨_, rfl, H6.out.1, H6.out.2⟩
end Go.Proofs.YtdhkcejfcmobcaaDoor
