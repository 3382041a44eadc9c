import Derived.Test.YtohooehbjbhhhaaDoorRhG
namespace Go.Proofs.YtohooehbjbhhhaaDoor
open Go.RowKit
set_option linter.unusedVariables false

theorem rhT_2 (xs : List Int) (p : Nat) (h1 : varOK xs p) (h : ¬ varOK xs (varN xs p)) : rhT xs p = .error 2 := by
  unfold rhT; rw [if_neg (fun h => h h1), if_pos h]
theorem rhT_3 (xs : List Int) (p : Nat) (h1 : varOK xs p) (h2 : varOK xs (varN xs p)) (h : 16384 < varV xs (varN xs p)) : rhT xs p = .error 3 := by
  unfold rhT; rw [if_neg (fun h => h h1), if_neg (fun h => h h2), if_pos h]
theorem rhT_4 (xs : List Int) (p : Nat) (h1 : varOK xs p) (h2 : varOK xs (varN xs p)) (h3 : ¬ 16384 < varV xs (varN xs p)) (h : xs.length < varN xs (varN xs p) + (varV xs (varN xs p)).toNat) : rhT xs p = .error 2 := by
  unfold rhT; rw [if_neg (fun h => h h1), if_neg (fun h => h h2), if_neg h3, if_pos h]
theorem rhT_5 (xs : List Int) (p : Nat) (h1 : varOK xs p) (h2 : varOK xs (varN xs p)) (h3 : ¬ 16384 < varV xs (varN xs p)) (h4 : ¬ xs.length < varN xs (varN xs p) + (varV xs (varN xs p)).toNat) : rhT xs p = match rhF (varV xs p) (sub xs (varN xs (varN xs p)) (varV xs (varN xs p)).toNat) with
    | none => .error 3
    | some f => if hyP f.k f.a f.d.length f.s then .ok (f, varN xs (varN xs p) + (varV xs (varN xs p)).toNat) else .error 3 := by
  unfold rhT; rw [if_neg (fun h => h h1), if_neg (fun h => h h2), if_neg h3, if_neg h4]; rfl
set_option maxRecDepth 20000 in
set_option maxHeartbeats 4000000 in
theorem clo_ok (g ab fb nb b off n cap p : Nat) (xs : List Int) (w : World) (ht : Tab w) (ha : w.cell? ⟨ab, 0, none⟩ = some (.int .i64 (p : Int))) (hf : fB w fb 0 0 (.slice none 0 0) (.slice none 0 0)) (hr : rdB w g (.slice (some ⟨b, off, none⟩) n cap) 0) (hnb : w.heap[nb]? = some (.cells #[.int .i64 0] 3 (0, 0))) (hl : Lies w b off n cap xs) (hB : Bytes xs) (hn : n ≤ 65536) (hb : ¬ S3 g fb nb b) (hT : ¬ S3 g fb nb 1) (hgf : fb ≠ g) (hgn : nb ≠ g) (hfn : fb ≠ nb) (hv : varOK xs p) :
    Calls Tryd.prog 17 #[.pointer (some ⟨g, 0, none⟩), .pointer (some ⟨ab, 0, none⟩), .pointer (some ⟨fb, 0, none⟩), .pointer (some ⟨nb, 0, none⟩)] w fun e w' => Chg (S3 g fb nb) w w' ∧ ((∃ c, rhT xs p = .error c ∧ e = .panicked [leftP c]) ∨ ∃ f q, rhT xs p = .ok (f, q) ∧ e = .returned (.tuple #[]) ∧ CloR w.heap.size w' fb nb f q) := by
  have hmf : ∀ (fn : Fn) (first cap : Array Value) (w : World), (Instr.makeFunc fn first cap).run Tryd.prog w = .ok (.func fn first cap) w := fun _ _ _ _ => rfl
  have c1 := hr.c1
  have f1 := hr.fr 1
  have hgb : b ≠ g := fun e => hb (Or.inl e)
  have hlen := hl.len
  have TB : ∀ u, Chg (S3 g fb nb) w u → Tab u := fun u hc => ht.chg hc hT
  have LI : ∀ u, Chg (S3 g fb nb) w u → Lies u b off n cap xs := fun u hc => hl.chg hc hb
  have C1 : Chg (S3 g fb nb) w (w.setCell ⟨g, 1, none⟩ (.int .i64 (p : Int))) := (Chg.refl _ w).set g 1 _ (Or.inl rfl)
  have F1 : fB (w.setCell ⟨g, 1, none⟩ (.int .i64 (p : Int))) fb 0 0 (.slice none 0 0) (.slice none 0 0) := (bk_other hgf 1 _).trans hf
  have N1 : (w.setCell ⟨g, 1, none⟩ (.int .i64 (p : Int))).heap[nb]? = some (.cells #[.int .i64 0] 3 (0, 0)) := (bk_other hgn 1 _).trans hnb
  have V1 := variable_ok g b off n cap p xs _ (TB _ C1) (hr.set (p : Int)) (LI _ C1) hB hn hv
  have hb1 := varN_bd xs p hv
  have VK : ∀ (q : Nat) (u : World), Chg (S3 g fb nb) w u → rdB u g (.slice (some ⟨b, off, none⟩) n cap) (q : Int) → varOK xs q → _ := fun q u hc hrd hv => variable_ok g b off n cap q xs u (TB u hc) hrd (LI u hc) hB hn hv
  have VN : ∀ (q : Nat) (u : World), Chg (S3 g fb nb) w u → rdB u g (.slice (some ⟨b, off, none⟩) n cap) (q : Int) → q ≤ n → ¬ varOK xs q → _ := fun q u hc hrd hq hv => variable_no g b off n cap q xs u (TB u hc) hrd (LI u hc) hB hn hq hv
  have TK : ∀ (q k : Nat) (u : World), Chg (S3 g fb nb) w u → rdB u g (.slice (some ⟨b, off, none⟩) n cap) (q : Int) → q + k ≤ n → _ := fun q k u hc hrd hq => take_ok g b off n cap q k xs u hrd (LI u hc) hgb hn hq
  have TN : ∀ (q : Nat) (k : Int) (u : World), rdB u g (.slice (some ⟨b, off, none⟩) n cap) (q : Int) → q ≤ n → (n : Int) - q < k → _ := fun q k u hrd hq hk => take_no g (some ⟨b, off, none⟩) n cap q k u hrd ⟨by omega, by omega⟩ (by omega) hk
  have hfl := hf.lt
  have hnl := (Array.getElem?_eq_some_iff.1 hnb).1
  have hgl := hr.lt
  have HH : Hid _ := And.intro V1 (And.intro C1 (And.intro F1 (And.intro N1 (And.intro VK (And.intro VN (And.intro TK (And.intro TN (And.intro TB hB))))))))
  have HV : Hid _ := And.intro hv (And.intro hb1 hlen)
  clear V1 C1 F1 N1 VK VN TK TN TB LI hl hB ht hf hr hnb hb1 hlen
  go_enter Tryd.func17, Tryd.ntmps17
  go_wp2_with fail
  go_at_call 18
  refine HH.out.1.mono ?_
  rintro e w2 ⟨rfl, r2, c2⟩
  have C2 : Chg (S3 g fb nb) w w2 := HH.out.2.1.trans (c2.mono fun q hq => Or.inl hq)
  have F2 := HH.out.2.2.1.chg c2 hgf
  have N2 := (c2.block nb (Array.getElem?_eq_some_iff.1 HH.out.2.2.2.1).1 hgn).trans HH.out.2.2.2.1
  have k0 := F2.c0
  have kf := F2.fr 0
  obtain ⟨K, eK⟩ : ∃ K, K = varV xs p := ⟨_, rfl⟩
  rw [← eK]
  have C3 : Chg (S3 g fb nb) w (w2.setCell ⟨fb, 0, none⟩ (.int .i64 K)) := C2.set fb 0 _ (Or.inr (Or.inl rfl))
  have F3 := F2.set0 K
  have N3 : (w2.setCell ⟨fb, 0, none⟩ (.int .i64 K)).heap[nb]? = some (.cells #[.int .i64 0] 3 (0, 0)) := (bk_other (fun e => hfn e.symm) 0 _).trans N2
  have R3 : rdB (w2.setCell ⟨fb, 0, none⟩ (.int .i64 K)) g (.slice (some ⟨b, off, none⟩) n cap) ((varN xs p : Nat) : Int) := r2.other hgf
  have H3 : Hid _ := And.intro C3 (And.intro F3 (And.intro N3 (And.intro R3 eK)))
  clear C2 F2 N2 C3 F3 N3 R3 r2 c2 eK
  by_cases hv2 : varOK xs (varN xs p)
  case neg =>
    have V2 := HH.out.2.2.2.2.2.1 (varN xs p) _ H3.out.1 H3.out.2.2.2.1 (by have := HV.out.2.1; have := HV.out.2.2; omega) hv2
    have he := rhT_2 xs p HV.out.1 hv2
    have H4 : Hid _ := And.intro V2 he
    clear V2 he hv2
    go_wp2_with fail
    go_at_call 18
    refine H4.out.1.mono ?_
    rintro e w4 ⟨rfl, c4⟩
    have H5 : Hid _ := And.intro (H3.out.1.trans (c4.mono fun q hq => Or.inl hq)) True.intro
    clear c4
    go_wp2_with fail
    exact ⟨rfl, H5.out.1, Or.inl ⟨2, H4.out.2, rfl⟩⟩
  case pos =>
  have V2 := HH.out.2.2.2.2.1 (varN xs p) _ H3.out.1 H3.out.2.2.2.1 hv2
  have hb2 := varN_bd xs (varN xs p) hv2
  have hvb := varV_bd xs (varN xs p)
  have hlen := HV.out.2.2
  have HV2 : Hid _ := And.intro hv2 True.intro
  clear hv2
  obtain ⟨m, em⟩ : ∃ m : Nat, varV xs (varN xs p) = (m : Int) := ⟨(varV xs (varN xs p)).toNat, by omega⟩
  obtain ⟨Q2, eQ2⟩ : ∃ Q2, varN xs (varN xs p) = Q2 := ⟨_, rfl⟩
  rw [em, eQ2] at V2
  rw [eQ2] at hb2
  have HE : Hid _ := And.intro em eQ2
  clear em eQ2 hvb
  have hq2 : Q2 ≤ n := by omega
  clear hb2
  by_cases hbig : 16384 < m
  · have he : rhT xs p = .error 3 := rhT_3 xs p HV.out.1 HV2.out.1 (by rw [HE.out.1]; omega)
    have hd : decide ((16384 : Int) < (m : Int)) = true := decide_eq_true (by omega)
    have H4 : Hid _ := And.intro V2 he
    clear V2 he
    go_wp2_with fail
    go_at_call 18
    refine H4.out.1.mono ?_
    rintro e w4 ⟨rfl, r4, c4⟩
    have H5 : Hid _ := And.intro (H3.out.1.trans (c4.mono fun q hq => Or.inl hq)) True.intro
    clear c4 r4
    go_wp2_with fail
    go_at_call 19
    refine (leaveIf_t _ 3 _).mono ?_
    rintro e w5 ⟨rfl, rfl⟩
    go_wp2_with fail
    exact ⟨rfl, H5.out.1, Or.inl ⟨3, H4.out.2, rfl⟩⟩
  have hd : decide ((16384 : Int) < (m : Int)) = false := decide_eq_false (by omega)
  have h3' : ¬ 16384 < varV xs (varN xs p) := by rw [HE.out.1]; omega
  by_cases hsh : n < Q2 + m
  · have he : rhT xs p = .error 2 := rhT_4 xs p HV.out.1 HV2.out.1 h3' (by rw [HE.out.1, HE.out.2]; omega)
    have hsh' : (n : Int) - Q2 < m := by omega
    have H4 : Hid _ := And.intro V2 (And.intro he h3')
    clear V2 he h3'
    go_wp2_with fail
    go_at_call 18
    refine H4.out.1.mono ?_
    rintro e w4 ⟨rfl, r4, c4⟩
    have T4 := HH.out.2.2.2.2.2.2.2.1 Q2 (m : Int) w4 r4 hq2 hsh'
    have H5 : Hid _ := And.intro (H3.out.1.trans (c4.mono fun q hq => Or.inl hq)) T4
    clear c4 r4 T4
    go_wp2_with fail
    go_at_call 19
    refine (leaveIf_f _ 3 _).mono ?_
    rintro e w5 ⟨rfl, rfl⟩
    go_wp2_with fail
    go_at_call 20
    refine H5.out.2.mono ?_
    rintro e w6 ⟨rfl, rfl⟩
    go_wp2_with fail
    exact ⟨rfl, H5.out.1.drew, Or.inl ⟨2, H4.out.2.1, rfl⟩⟩
  have h4' : ¬ xs.length < varN xs (varN xs p) + (varV xs (varN xs p)).toNat := by rw [HE.out.1, HE.out.2]; omega
  have he := rhT_5 xs p HV.out.1 HV2.out.1 h3' h4'
  rw [HE.out.1, HE.out.2, Int.toNat_natCast, ← H3.out.2.2.2.2] at he
  have hys := sub_bytes HH.out.2.2.2.2.2.2.2.2.2 Q2 m
  have hyl : (sub xs Q2 m).length = m := sub_len xs Q2 m (by omega)
  obtain ⟨ys, eys⟩ : ∃ ys, ys = sub xs Q2 m := ⟨_, rfl⟩
  rw [← eys] at he hys hyl
  have H4 : Hid _ := And.intro V2 (And.intro he (And.intro hys (And.intro hyl eys)))
  clear V2 he h3' h4' hys hyl eys
  go_wp2_with fail
  go_at_call 18
  refine H4.out.1.mono ?_
  rintro e w4 ⟨rfl, r4, c4⟩
  have C4 : Chg (S3 g fb nb) w w4 := H3.out.1.trans (c4.mono fun q hq => Or.inl hq)
  have T4 := HH.out.2.2.2.2.2.2.1 Q2 m w4 C4 r4 (by omega)
  rw [show (xs.drop Q2).take m = ys from H4.out.2.2.2.2.symm] at T4
  have F4 := H3.out.2.1.chg c4 hgf
  have N4 := (c4.block nb (Array.getElem?_eq_some_iff.1 H3.out.2.2.1).1 hgn).trans H3.out.2.2.1
  have H5 : Hid _ := And.intro C4 (And.intro T4 (And.intro F4 N4))
  clear C4 T4 F4 N4 r4 c4
  go_wp2_with fail
  go_at_call 19
  refine (leaveIf_f _ 3 _).mono ?_
  rintro e w5 ⟨rfl, hw5⟩
  subst hw5
  go_wp2_with fail
  go_at_call 20
  refine H5.out.2.1.mono ?_
  rintro e w6 ⟨v, rfl, o6, r6, c6⟩
  obtain ⟨va, vc, rfl, pay6, hvl⟩ := pay_of_owns o6
  have C6 : Chg (S3 g fb nb) w w6 := H5.out.1.trans (c6.mono fun q hq => Or.inl hq)
  have F6 := H5.out.2.2.1.chg c6 hgf
  have N6 := (c6.block nb (Array.getElem?_eq_some_iff.1 H5.out.2.2.2).1 hgn).trans H5.out.2.2.2
  have P6 := rbP fb K va m vc ys w6 (HH.out.2.2.2.2.2.2.2.2.1 _ C6) F6 pay6 H4.out.2.2.1 (fun b' off' e h => by have h1 := (hvl b' off' e).1; have h2 := H5.out.1.size; omega) (by omega) (fun e => hT (Or.inr (Or.inl e)))
  have H6 : Hid _ := And.intro C6 (And.intro P6 (And.intro N6 r6))
  clear C6 F6 N6 P6 o6 r6 c6 pay6 hvl
  go_wp2_with fail
  go_at_call 16
  refine H6.out.2.1.mono ?_
  rintro e w7 ⟨c7, ⟨hF, rfl⟩ | ⟨f, hF, rfl, d, s, h1, h2, h3, h4⟩⟩
  · have he : rhT xs p = .error 3 := by rw [H4.out.2.1, hF]
    have C7 : Chg (S3 g fb nb) w w7 := H6.out.1.trans (c7.mono fun q hq => Or.inr (Or.inl hq))
    have H7 : Hid _ := And.intro C7 he
    clear C7 he c7 hF
    unfold faultV
    go_wp2_with fail
    go_at_call 19
    refine (leaveIf_t _ 3 _).mono ?_
    rintro e w8 ⟨rfl, rfl⟩
    go_wp2_with fail
    exact ⟨rfl, H7.out.1, Or.inl ⟨3, H7.out.2, rfl⟩⟩
  · obtain ⟨lf1, lf2, lf3⟩ := rhF_len _ _ _ hF
    have C7 : Chg (S3 g fb nb) w w7 := H6.out.1.trans (c7.mono fun q hq => Or.inr (Or.inl hq))
    have he : rhT xs p = if hyP f.k f.a f.d.length f.s then .ok (f, Q2 + m) else .error 3 := by rw [H4.out.2.1, hF]
    have hl4 := H4.out.2.2.2.1
    have N7 := (c7.block nb (Array.getElem?_eq_some_iff.1 H6.out.2.2.1).1 (fun e => hfn e.symm)).trans H6.out.2.2.1
    have R7 := H6.out.2.2.2.chg c7 (fun e => hgf e.symm)
    have hz7 : w.heap.size ≤ w6.heap.size := H6.out.1.size
    have e0 := h1.c0
    have e1 := h1.c1
    have e2 := h1.c2
    have e3 := h1.c3
    obtain ⟨da, dc, ed⟩ := (row_of_owns h2).form
    obtain ⟨sa, sc, es⟩ := srow_form h3.row
    obtain ⟨dn, edn⟩ : ∃ dn, dn = f.d.length := ⟨_, rfl⟩
    have HO := hokI f.k f.a da dn dc s f.s w7 h3.row (by omega) (by omega)
    rw [lf3] at HO
    rw [← edn] at ed
    have r1 := R7.c1
    have n0 := bk_cell N7 0
    have nf := bk_free N7 0
    simp at n0
    obtain ⟨ok, eok⟩ : ∃ ok, ok = decide (hyP K f.a dn f.s) := ⟨_, rfl⟩
    rw [← eok] at HO
    have H7 : Hid _ := And.intro C7 (And.intro he (And.intro HO (And.intro eok (And.intro edn (And.intro lf3 (And.intro N7 (And.intro R7 (And.intro h1 (And.intro h2 (And.intro h3 (And.intro h4 hz7)))))))))))
    obtain ⟨sn, esn⟩ : ∃ sn, sn = f.s.length := ⟨_, rfl⟩
    rw [← esn] at es
    subst ed
    subst es
    clear C7 he HO eok edn lf1 lf2 lf3 N7 R7 h1 h2 h3 h4 hz7 c7 hF esn hl4
    cases ok with
    | false =>
      go_wp2_with fail
      go_at_call 22
      refine H7.out.2.2.1.mono ?_
      rintro e w8 ⟨rfl, b8⟩
      have he : rhT xs p = .error 3 := by rw [H7.out.2.1, if_neg (by rw [H7.out.2.2.2.2.2.1, ← H7.out.2.2.2.2.1]; exact of_decide_eq_false H7.out.2.2.2.1.symm)]
      have H8 : Hid _ := And.intro (H7.out.1.trans (Chg.of_below b8)) he
      clear b8 he
      go_wp2_with fail
      go_at_call 19
      refine (leaveIf_t _ 3 _).mono ?_
      rintro e w9 ⟨rfl, rfl⟩
      go_wp2_with fail
      exact ⟨rfl, H8.out.1, Or.inl ⟨3, H8.out.2, rfl⟩⟩
    | true =>
      go_wp2_with fail
      go_at_call 22
      refine H7.out.2.2.1.mono ?_
      rintro e w8 ⟨rfl, b8⟩
      have he : rhT xs p = .ok (f, Q2 + m) := by rw [H7.out.2.1, if_pos (by rw [H7.out.2.2.2.2.2.1, ← H7.out.2.2.2.2.1]; exact of_decide_eq_true H7.out.2.2.2.1.symm)]
      have C8 := H7.out.1.trans (Chg.of_below b8)
      have N8 := (b8.block nb (Array.getElem?_eq_some_iff.1 H7.out.2.2.2.2.2.2.1).1).trans H7.out.2.2.2.2.2.2.1
      have R8 := H7.out.2.2.2.2.2.2.2.1.below b8
      have F8 : fB w8 fb K f.a (.slice da dn dc) (.slice sa sn sc) := H7.out.2.2.2.2.2.2.2.2.1.chg (S := fun _ => False) (Chg.of_below b8) (fun h => h)
      have D8 := owns_below H7.out.2.2.2.2.2.2.2.2.2.1 b8
      have S8 := H7.out.2.2.2.2.2.2.2.2.2.2.1.below b8
      have r8 := R8.c1
      have n8 := bk_cell N8 0
      have nf8 := bk_free N8 0
      simp at n8
      have H8 : Hid _ := And.intro C8 (And.intro he (And.intro N8 (And.intro F8 (And.intro D8 S8))))
      clear b8 he C8 N8 R8 F8 D8 S8
      go_wp2_with fail
      go_at_call 19
      refine (leaveIf_f _ 3 _).mono ?_
      rintro e w9 ⟨rfl, hw9⟩
      subst hw9
      go_wp2
      go_end0
      have hz := H7.out.2.2.2.2.2.2.2.2.2.2.2.2
      refine ⟨H8.out.1.set nb 0 _ (Or.inr (Or.inr rfl)), Or.inr ⟨f, Q2 + m, H8.out.2.1, rfl, ⟨_, _, ?_, owns_mono (own_setH H8.out.2.2.2.2.1 (by omega)) hz, (gown_setH H8.out.2.2.2.2.2 (by omega)).mono hz, H7.out.2.2.2.2.2.2.2.2.2.2.2.1⟩, bk_set H8.out.2.2.1 0 _⟩⟩
      rw [H7.out.2.2.2.2.2.1]
      exact (bk_other hfn 0 _).trans H8.out.2.2.2.1
end Go.Proofs.YtohooehbjbhhhaaDoor
