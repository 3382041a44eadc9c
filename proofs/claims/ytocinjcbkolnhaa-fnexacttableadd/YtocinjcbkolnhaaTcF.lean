import Derived.Test.YtocinjcbkolnhaaTcT
import Derived.Test.YtocinjcbkolnhaaAppRow
namespace Go.Proofs.Ytocinjcbkolnhaa
open Go.RowKit
set_option linter.unusedVariables false

theorem GOwns.cellsF {w : World} {base : Nat} {v : Value} {R : List SField} (h : GOwns 35 2 w base v (SField.L R)) : w.ownsRow base 35 2 v R.length (rcF R) := by
  obtain ⟨zs, ho, hz⟩ := h
  have hL : (SField.L R).length = R.length := List.length_map _
  rw [hL] at ho hz
  have e := rcF_of R zs ho.1 hz
  rw [← e]
  exact ho
theorem GOwns.ofF {w : World} {base : Nat} {v : Value} {R : List SField} (h : w.ownsRow base 35 2 v R.length (rcF R)) : GOwns 35 2 w base v (SField.L R) := by
  have hL : (SField.L R).length = R.length := List.length_map _
  refine ⟨rcF R, by rw [hL]; exact h, fun j hj q hq => ?_⟩
  rw [hL] at hj
  rw [SField.at R j hj]
  obtain rfl | rfl : q = 0 ∨ q = 1 := by omega
  · exact rc_get0F R j hj
  · exact rc_get1F R j hj
theorem rcF_read {w : World} {b off : Nat} {S : List SField} (hc : ∀ j, j < S.length → ∀ f, f < 2 → w.cell? ⟨b, off + (j * 2 + f), none⟩ = ((SField.L S).getD j [])[f]?) (j : Nat) (u : Value) (hj : (rcF S)[j]? = some u) : w.cell? ((⟨b, off, none⟩ : Addr).add j) = some u := by
  have hl : j < S.length * 2 := by
    have := (List.getElem?_eq_some_iff.1 hj).1
    rw [rc_lengthF] at this
    omega
  have hadd : (⟨b, off, none⟩ : Addr).add j = ⟨b, off + j, none⟩ := by unfold Addr.add; split <;> simp_all
  rw [hadd]
  rcases Nat.mod_two_eq_zero_or_one j with e | e
  · obtain ⟨q, rfl⟩ : ∃ q, j = q * 2 := ⟨j / 2, by omega⟩
    have := hc q (by omega) 0 (by decide)
    rw [SField.at S q (by omega)] at this
    rw [rc_get0F _ q (by omega)] at hj
    rw [← hj]
    exact this
  · obtain ⟨q, rfl⟩ : ∃ q, j = q * 2 + 1 := ⟨j / 2, by omega⟩
    have := hc q (by omega) 1 (by decide)
    rw [SField.at S q (by omega)] at this
    rw [rc_get1F _ q (by omega)] at hj
    rw [← hj]
    exact this
theorem run_append_fields {w : World} (ty : TypeId) (base : Nat) (v : Value) (R : List SField) (hown : GOwns 35 2 w base v (SField.L R)) (v2 : Value) (S : List SField) (hrow : GRow 2 w v2 (SField.L S)) (h63 : R.length + S.length ≤ 1099511627776) (hbase : base ≤ w.heap.size) :
    ∃ v' w', (Builtin.append_ #[29, 29] ty #[v, v2]).run Try.prog w = .ok v' w' ∧ GOwns 35 2 w' base v' (SField.L (R ++ S)) ∧ w.grownBy w' v.ownBlock := by
  obtain ⟨i0, hi, hz0, hz1, hz2⟩ := info_parts infoFd3
  have hL : (SField.L S).length = S.length := List.length_map _
  by_cases h0 : 0 < S.length
  · obtain ⟨b, off, cap, rfl, hb, hc⟩ := hrow.at' (by rw [hL]; exact h0)
    rw [hL] at hc ⊢
    obtain ⟨v', w', hr, ho', hg, _⟩ := run_append_own (P := Try.prog) w base 29 ty 35 i0 (.agg #[.string ⟨#[]⟩, .string ⟨#[]⟩]) 2 32 Try.underlying29 hi hz0 hz1 hz2 rfl (by decide) v R.length (rcF R) hown.cellsF ⟨b, off, none⟩ S.length cap (rcF S) (by rw [rc_lengthF]; omega) (fun j u hj => rcF_read hc j u hj) (rc_oneF S) (by unfold maxLen; omega) (by omega) hbase
    refine ⟨v', w', hr, GOwns.ofF ?_, hg⟩
    rw [rc_appendF, List.length_append]
    exact ho'
  · have hn : S = [] := List.eq_nil_of_length_eq_zero (by omega)
    subst hn
    obtain ⟨ao, cap, rfl⟩ := hrow.form
    exact ⟨v, w, run_append_owned_zero (P := Try.prog) (w := w) base 29 ty 35 i0 2 Try.underlying29 hi v R.length (rcF R) ao cap hown.cellsF, by simpa using hown, ⟨rfl, rfl, rfl, Nat.le_refl _, fun _ _ _ => rfl⟩⟩
theorem wpList_append_fields {w : World} {ops : Array Oper} {rest : List Oper} {o : Oper} {a : Act} {Q : Exit → Act → World → Prop} (hgd : o.guard = none) (p q : Operand)
    (ho : o.op = .call { callee := .builtin .append, args := #[p, q], argTypes := #[29, 29] })
    (base : Nat) (v : Value) (R : List SField) (hp : a.eval p = v) (hown : GOwns 35 2 w base v (SField.L R)) (v2 : Value) (S : List SField) (hq : a.eval q = v2) (hrow : GRow 2 w v2 (SField.L S)) (h63 : R.length + S.length ≤ 1099511627776) (hbase : base ≤ w.heap.size)
    (h : ∀ v' w', GOwns 35 2 w' base v' (SField.L (R ++ S)) → w.grownBy w' v.ownBlock → wpList Try.prog ops Q rest (a.put o.dst v') w') :
    wpList Try.prog ops Q (o :: rest) a w := by
  obtain ⟨v', w', hr, h2, h3⟩ := run_append_fields o.type base v R hown v2 S hrow h63 hbase
  refine wpList_plain hgd fun K hK => ?_
  unfold Oper.wp
  simp [execOp, ho, resolve, invoke, builtin, hp, hq, hr, Result.andThen]
  exact hK _ _ (h v' w' h2 h3)
theorem GOwns.lit0F (w : World) (base : Nat) (hb : base ≤ w.heap.size) : GOwns 35 2 (w.alloc (.cells #[] 35)) base (.slice (some ⟨w.heap.size, 0, none⟩) 0 0) (SField.L []) := GOwns.ofF (World.ownsRow_lit _ #[] 0 hb (by decide) rfl)
theorem GOwns.formF {w : World} {base : Nat} {v : Value} {R : List SField} (h : GOwns 35 2 w base v (SField.L R)) : ∃ ao cp, v = .slice ao R.length cp ∧ R.length ≤ cp := by
  have ho := h.cellsF
  rcases ho.2 with ⟨rfl, h0⟩ | ⟨g, cap, cur, rfl, _, _, hnc, _⟩
  · exact ⟨none, 0, by rw [h0], by omega⟩
  · exact ⟨_, cap, rfl, hnc⟩
/-- A row without its first one. -/
theorem grow_tail {w : World} {ao : Option Addr} {cp m : Nat} {S : List SField} (h : GRow 2 w (.slice ao m cp) (SField.L S)) (hm : 0 < m) (hc : m ≤ cp) :
    S.length = m ∧ ∃ b off, ao = some ⟨b, off, none⟩ ∧ (1 < m → GRow 2 w (.slice (some ⟨b, off + 2, none⟩) (m - 1) (cp - 1)) (SField.L (S.drop 1))) := by
  have hL : (SField.L S).length = S.length := List.length_map _
  obtain ⟨a1, c1, e1⟩ := h.form
  rw [hL] at e1
  simp only [Value.slice.injEq] at e1
  obtain ⟨rfl, e2, rfl⟩ := e1
  subst e2
  obtain ⟨b, off, cap, ev, hb, hcs⟩ := h.at' (by rw [hL]; exact hm)
  simp only [Value.slice.injEq] at ev
  refine ⟨rfl, b, off, ev.1, fun h1 => Or.inr ⟨b, off + 2, cp - 1, by rw [List.length_map, List.length_drop], hb, fun j hj f hf => ?_⟩⟩
  rw [List.length_map, List.length_drop] at hj
  have := hcs (j + 1) (by rw [hL]; omega) f hf
  rw [SField.at S (j + 1) (by omega)] at this
  rw [SField.at (S.drop 1) j (by rw [List.length_drop]; omega), show off + 2 + (j * 2 + f) = off + ((j + 1) * 2 + f) by omega, this]
  simp [List.getD]
def slN : Value → Nat
  | .slice _ m _ => m
  | _ => 0
set_option maxRecDepth 20000 in
set_option maxHeartbeats 4000000 in
theorem fitS (x : Int) (v : Value) (L : List SField) (w : World) (h : GRow 2 w v (SField.L L)) (hn : L.length ≤ 1048576) (ht : txs L ≤ 1048576) :
    Calls Try.prog 17 #[v, .int .i64 x] w fun e w' => ∃ r, e = .returned r ∧ GOwns 35 2 w' w.heap.size r (SField.L (L.drop (gng x L))) ∧ Below w.heap.size w w' := by
  obtain ⟨n, en⟩ : ∃ n, n = L.length := ⟨_, rfl⟩
  obtain ⟨ao, cp, ev⟩ := h.form
  rw [List.length_map, ← en] at ev
  subst ev
  obtain ⟨A, eA⟩ : ∃ A, A = gng x L := ⟨_, rfl⟩
  rw [← eA]
  have b0 : Below w.heap.size w (w.alloc (.cells #[] 35)) := (Below.refl _ _).alloc (Nat.le_refl _) _
  have HH : Hid _ := And.intro h (And.intro en (And.intro eA (And.intro hn (And.intro ht b0))))
  clear h en eA hn ht b0
  go_enter Try.func17, Try.ntmps17
  go_wp2_with (at_builtin; refine wpList_append_fields rfl (.tmp 6) (.tmp 7) rfl w.heap.size (.slice (some ⟨w.heap.size, 0, none⟩) 0 0) [] rfl (GOwns.lit0F w w.heap.size (Nat.le_refl _)) _ L rfl (HH.out.1.below HH.out.2.2.2.2.2) (by have := HH.out.2.2.2.1; simp; omega) HH.out.2.2.2.2.2.size ?_; intro v1 w1 o1 g1)
  obtain ⟨a1, c1, e1, hc1⟩ := o1.formF
  rw [List.nil_append] at e1 hc1 o1
  rw [← HH.out.2.1] at e1 hc1
  subst e1
  have b1 : Below w.heap.size w w1 := HH.out.2.2.2.2.2.grown g1 HH.out.2.2.2.2.2.size (fun k e => by have : w.heap.size = k := Option.some.inj e; omega)
  have OO : Hid _ := And.intro o1.row b1
  clear o1 g1 b1
  go_loopw [5] (fun s wr => ∃ (k m : Nat) (ao2 : Option Addr) (cp2 : Nat), k + m = n ∧ s = .slice ao2 m cp2 ∧ m ≤ cp2 ∧ A = k + gng x (L.drop k) ∧ GRow 2 wr (.slice ao2 m cp2) (SField.L (L.drop k)) ∧ Below w.heap.size w wr) (fun s _ => slN s)
  case atStart => exact ⟨0, n, a1, c1, by omega, rfl, hc1, by rw [HH.out.2.2.1]; simp, by simpa using OO.out.1, OO.out.2⟩
  case round =>
    clear hc1
    obtain ⟨k, m, ao2, cp2, hk, rfl, hcp, hA, hg, bw⟩ := hrel
    have hdt : txs (L.drop k) ≤ 1048576 := by
      have h := txs_app (L.take k) (L.drop k)
      rw [List.take_append_drop] at h
      have := txs_nn (L.take k)
      have := HH.out.2.2.2.2.1
      omega
    have hdl : (L.drop k).length ≤ 1048576 := by rw [List.length_drop]; have := HH.out.2.2.2.1; omega
    by_cases hm : 0 < m
    · have CC := costsS _ _ wr hg hdl hdt
      obtain ⟨hlen, b, off, rfl, htl⟩ := grow_tail hg hm hcp
      by_cases hgo : x < csts (L.drop k)
      · have hgg := gng_go x L k (by have := HH.out.2.1; omega) hgo
        obtain ⟨S, eS⟩ : ∃ S, S = csts (L.drop k) := ⟨_, rfl⟩
        rw [← eS] at CC hgo
        by_cases h1 : 1 < m
        · have h2 : (cp2 = 1) = False := by simp; omega
          have h3 := htl h1
          rw [List.drop_drop] at h3
          have H1 : Hid _ := And.intro CC (And.intro h3 (And.intro bw (And.intro hA hgg)))
          clear CC h3 bw hA hgg htl hg eS hlen hdt hdl
          go_wp2_with (go_at_call 25; refine H1.out.1.mono ?_; rintro e w2 ⟨rfl, b2⟩; have H2 : Hid _ := And.intro b2 True.intro; clear b2)
          exact ⟨⟨k + 1, m - 1, _, _, by omega, rfl, by omega, by have := H1.out.2.2.2.1; have := H1.out.2.2.2.2; omega, H1.out.2.1.below H2.out.1, H1.out.2.2.1.trans (H2.out.1.mono H1.out.2.2.1.size)⟩, by show m - 1 < m; omega⟩
        · have em : m = 1 := by omega
          subst em
          have hnil : L.drop (k + 1) = [] := List.drop_eq_nil_of_le (by have := HH.out.2.1; omega)
          have H1 : Hid _ := And.intro CC (And.intro hnil (And.intro bw (And.intro hA hgg)))
          clear CC bw hA hgg htl hg eS hlen hdt hdl hnil h1
          by_cases h2 : cp2 = 1
          · subst h2
            go_wp2_with (go_at_call 25; refine H1.out.1.mono ?_; rintro e w2 ⟨rfl, b2⟩; have H2 : Hid _ := And.intro b2 True.intro; clear b2)
            exact ⟨⟨k + 1, 0, _, _, by omega, rfl, by omega, by have := H1.out.2.2.2.1; have := H1.out.2.2.2.2; omega, Or.inl ⟨by rw [H1.out.2.1]; rfl, _, _, rfl⟩, H1.out.2.2.1.trans (H2.out.1.mono H1.out.2.2.1.size)⟩, by show 0 < 1; omega⟩
          · have h3 : (cp2 = 1) = False := by simp; exact h2
            clear h2
            go_wp2_with (go_at_call 25; refine H1.out.1.mono ?_; rintro e w2 ⟨rfl, b2⟩; have H2 : Hid _ := And.intro b2 True.intro; clear b2)
            exact ⟨⟨k + 1, 0, _, _, by omega, rfl, by omega, by have := H1.out.2.2.2.1; have := H1.out.2.2.2.2; omega, Or.inl ⟨by rw [H1.out.2.1]; rfl, _, _, rfl⟩, H1.out.2.2.1.trans (H2.out.1.mono H1.out.2.2.1.size)⟩, by show 0 < 1; omega⟩
      · have hst := gng_stop x (L.drop k) (by omega)
        have hAk : A = k := by omega
        obtain ⟨S, eS⟩ : ∃ S, S = csts (L.drop k) := ⟨_, rfl⟩
        rw [← eS] at CC hgo
        have H1 : Hid _ := And.intro CC (And.intro hg (And.intro bw hAk))
        clear CC hg bw hAk hst hA htl eS hlen hdt hdl
        go_wp2_with (first
          | (go_at_call 25; refine H1.out.1.mono ?_; rintro e w2 ⟨rfl, b2⟩; have bb := H1.out.2.2.1.trans (b2.mono H1.out.2.2.1.size); have H2 : Hid _ := And.intro (H1.out.2.1.below b2) (And.intro bb (bb.alloc bb.size (.cells #[] 35))); clear b2 bb)
          | (at_builtin; refine wpList_append_fields rfl (.tmp 20) (.tmp 21) rfl w.heap.size (.slice (some ⟨w2.heap.size, 0, none⟩) 0 0) [] rfl (GOwns.lit0F w2 w.heap.size H2.out.2.1.size) _ (L.drop k) rfl (H2.out.1.below ((Below.refl _ _).alloc (Nat.le_refl _) _)) (by simp; have := HH.out.2.2.2.1; omega) H2.out.2.2.size ?_; intro v3 w3 o3 g3))
        go_ret
        rw [List.nil_append] at o3
        exact ⟨_, rfl, by rw [H1.out.2.2.2]; exact o3, H2.out.2.2.grown g3 H2.out.2.2.size (fun q e => by have : w2.heap.size = q := Option.some.inj e; have := H2.out.2.1.size; omega)⟩
    · have em : m = 0 := by omega
      subst em
      have hnil : L.drop k = [] := List.drop_eq_nil_of_le (by have := HH.out.2.1; omega)
      have hAk : A = k := by rw [hnil] at hA; simp [gng] at hA; exact hA
      have ba := bw.alloc bw.size (.cells #[] 35)
      have H1 : Hid _ := And.intro hg (And.intro bw (And.intro hAk ba))
      clear hg bw hAk hA hdt hdl hm hnil ba
      go_wp2_with (at_builtin; refine wpList_append_fields rfl (.tmp 20) (.tmp 21) rfl w.heap.size (.slice (some ⟨wr.heap.size, 0, none⟩) 0 0) [] rfl (GOwns.lit0F wr w.heap.size H1.out.2.1.size) _ (L.drop k) rfl (H1.out.1.below ((Below.refl _ _).alloc (Nat.le_refl _) _)) (by simp; have := HH.out.2.2.2.1; omega) H1.out.2.2.2.size ?_; intro v3 w3 o3 g3)
      go_ret
      rw [List.nil_append] at o3
      exact ⟨_, rfl, by rw [H1.out.2.2.1]; exact o3, H1.out.2.2.2.grown g3 H1.out.2.2.2.size (fun q e => by have : wr.heap.size = q := Option.some.inj e; have := H1.out.2.1.size; omega)⟩
end Go.Proofs.Ytocinjcbkolnhaa
