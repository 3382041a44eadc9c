import Derived.Test.YtabnicgbcedddaaTgP
namespace Go.Proofs.Ytabnicgbcedddaa
open Go.RowKit
set_option linter.unusedVariables false

theorem results_rt {P : Program} {fn : Func} {p q : Tmp} {ty : TypeId} (h : fn.results = #[.cell p ty, .tmp q]) (tmps : Array Value) (w : World) (g : Nat) (t : TypeId) (cs : Array Value) (fr : Nat × Nat) (d : TypeDesc) (u : Value)
    (hp : tmps.getD p undef = .pointer (some ⟨g, 0, none⟩)) (hq : tmps.getD q undef = u) (hg : w.heap[g]? = some (.cells cs t fr))
    (hu : P.underlying ty = some d) (hd : (match d with | .struct _ | .array _ _ => true | _ => false) = true) (hi : (P.info? ty).map (·.size) = some cs.size) :
    (results fn tmps).run P w = .ok (.tuple #[.agg cs, u]) w := by
  have hp' : tmps[p]?.getD undef = .pointer (some ⟨g, 0, none⟩) := by simpa using hp
  have hq' : tmps[q]?.getD undef = u := by simpa using hq
  simp [results, h, hp', hq', asAddr, run_loadVar_row w g t ty cs fr d hg hu hd hi]
def fV (x : SField) : Value := .agg #[.string x.f0, .string x.f1]
/-- What TableGet answers. -/
def tgR (t : TB) (i : Int) : SField × Int :=
  if tOK t = false then (default, 1) else if i < t.ad - t.es.length ∨ t.ad ≤ i then (default, 16) else (t.es.getD (i - (t.ad - t.es.length)).toNat default, 0)
theorem getS_no (mo ca ad i : Int) (ao : Option Addr) (n cp : Nat) (w : World) (hn : n ≤ 4096) (h0 : (n : Int) ≤ ad) (h1 : ad ≤ 4611686018427387902) (h : i < ad - n ∨ ad ≤ i) :
    Calls Try.prog 39 #[.agg #[.int .i64 mo, .int .i64 ca, .int .i64 ad, .slice ao n cp], .int .i64 i] w fun e w' => e = .returned (.tuple #[.agg #[.string ⟨#[]⟩, .string ⟨#[]⟩], .bool false]) ∧ Below w.heap.size w w' := by
  by_cases g : i < ad - n
  · clear h
    go_enter Try.func39, Try.ntmps39
    go_wp2
    refine bodyPost_ret (v := .tuple #[.agg #[.string ⟨#[]⟩, .string ⟨#[]⟩], .bool false]) (by simp [results, Try.results39, go_sem]) rfl ?_
    exact ⟨rfl, ((Below.refl _ _).alloc (Nat.le_refl _) _).alloc (by simp) _⟩
  · have g2 : ad ≤ i := by omega
    have g3 : decide (i < ad - n) = false := decide_eq_false g
    clear h
    go_enter Try.func39, Try.ntmps39
    go_wp2
    refine bodyPost_ret (v := .tuple #[.agg #[.string ⟨#[]⟩, .string ⟨#[]⟩], .bool false]) (by simp [results, Try.results39, go_sem]) rfl ?_
    exact ⟨rfl, ((Below.refl _ _).alloc (Nat.le_refl _) _).alloc (by simp) _⟩
theorem getS_at (mo ca ad i : Int) (ao : Option Addr) (n cp f j : Nat) (L : List SField) (w : World) (en : L.length = n) (hn : n ≤ 4096) (ef : (f : Int) = ad - n) (h1 : ad ≤ 4611686018427387902) (hj : j < n) (ei : i = (f : Int) + j) (hr : GRow 2 w (.slice ao n cp) (SField.L L)) :
    Calls Try.prog 39 #[.agg #[.int .i64 mo, .int .i64 ca, .int .i64 ad, .slice ao n cp], .int .i64 i] w fun e w' => e = .returned (.tuple #[fV (L.getD j default), .bool true]) ∧ Below w.heap.size w w' := by
  have hf0 : ad - (n : Int) = (f : Int) := ef.symm
  have hi0 : i - (f : Int) = (j : Int) := by omega
  have g1 : ¬ i < (f : Int) := by omega
  have g2 : i < ad := by omega
  obtain ⟨b, off, cap, ev, hb, hc⟩ := frow_at hr (by omega)
  rw [en] at ev
  simp only [Value.slice.injEq] at ev
  obtain ⟨rfl, em2, rfl⟩ := ev
  clear em2
  obtain ⟨c0, c1⟩ := row_field hc j (by omega)
  unfold fV
  obtain ⟨F, eF⟩ : ∃ F, F = L.getD j default := ⟨_, rfl⟩
  rw [← eF] at c0 c1 ⊢
  obtain ⟨a, c⟩ := F
  simp only at c0 c1 ⊢
  have z : b < w.heap.size := hb
  clear ef ei hr hc eF en
  go_enter Try.func39, Try.ntmps39
  go_wp2
  refine bodyPost_ret (v := .tuple #[.agg #[.string a, .string c], .bool true]) (by simp [results, Try.results39, go_sem]) rfl ?_
  exact ⟨rfl, ((Below.refl _ _).alloc (Nat.le_refl _) _).alloc (by simp) _⟩
theorem getI_no (G R base : Nat) (f mo ca ad cost i : Int) (RL : List SField) (w : World) (ot : OT w G R base f mo ca ad cost RL) (h : i < f ∨ ad ≤ i) :
    Calls Try.prog 41 #[.pointer (some ⟨G, 0, none⟩), .int .i64 i] w fun e w' => e = .returned (.tuple #[.agg #[.string ⟨#[]⟩, .string ⟨#[]⟩], .int .i64 16]) ∧ Below w.heap.size w w' := by
  obtain ⟨t0, t1, t2, t3, t4, t5⟩ := ot.cells
  have zz : G < w.heap.size := ot.lt.1
  clear ot
  by_cases g : i < f
  · clear h
    go_enter Try.func41, Try.ntmps41
    go_wp2
    refine bodyPost_ret (v := .tuple #[.agg #[.string ⟨#[]⟩, .string ⟨#[]⟩], .int .i64 16]) (by simp [results, Try.results41, go_sem]) rfl ?_
    exact ⟨rfl, (Below.refl _ _).alloc (Nat.le_refl _) _⟩
  · have g2 : ad ≤ i := by omega
    have g3 : decide (i < f) = false := decide_eq_false g
    clear h
    go_enter Try.func41, Try.ntmps41
    go_wp2
    refine bodyPost_ret (v := .tuple #[.agg #[.string ⟨#[]⟩, .string ⟨#[]⟩], .int .i64 16]) (by simp [results, Try.results41, go_sem]) rfl ?_
    exact ⟨rfl, (Below.refl _ _).alloc (Nat.le_refl _) _⟩
set_option maxHeartbeats 1000000 in
theorem getI_at (G R base f p : Nat) (mo ca ad cost i : Int) (RL : List SField) (w : World) (ot : OT w G R base f mo ca ad cost RL) (h0 : (f : Int) ≤ i) (h1 : i < ad) (h2 : ad ≤ 4611686018427387902) (ei : i = (p : Int)) :
    Calls Try.prog 41 #[.pointer (some ⟨G, 0, none⟩), .int .i64 i] w fun e w' => e = .returned (.tuple #[fV (RL.getD (p % 124) default), .int .i64 0]) ∧ Below w.heap.size w w' := by
  subst ei
  have zz : G < w.heap.size := ot.lt.1
  have zR : R < w.heap.size := ot.lt.2.1
  have b0 : Below w.heap.size w (w.alloc (.cells #[.string ⟨#[]⟩, .string ⟨#[]⟩] 41)) := (Below.refl _ _).alloc (Nat.le_refl _) _
  have ot0 := ot.below b0
  obtain ⟨t0, t1, t2, t3, t4, t5⟩ := ot.cells
  have CA := atF G 0 R p (w.alloc (.cells #[.string ⟨#[]⟩, .string ⟨#[]⟩] 41)) ot0.cells.1 (by omega)
  obtain ⟨v0, v1, v2, v3⟩ := ot0.at (p % 124) (Nat.mod_lt _ (by decide))
  obtain ⟨k0, y0, y1, f0, f1⟩ := (After.new w (.cells #[.string ⟨#[]⟩, .string ⟨#[]⟩] 41)).cells2
  unfold fV
  obtain ⟨F, eF⟩ : ∃ F, F = RL.getD (p % 124) default := ⟨_, rfl⟩
  rw [← eF] at v0 v1 ⊢
  obtain ⟨a, c⟩ := F
  simp only at v0 v1 ⊢
  obtain ⟨q, eq⟩ : ∃ q, q = p % 124 := ⟨_, rfl⟩
  rw [← eq] at CA v0 v1 v2 v3
  have H : Hid _ := And.intro CA (And.intro b0 (And.intro v0 (And.intro v1 (And.intro k0 (And.intro y0 (And.intro y1 (And.intro f0 f1)))))))
  clear CA b0 ot ot0 eF eq v0 v1 v2 v3 k0 y0 y1 f0 f1
  go_enter Try.func41, Try.ntmps41
  go_wp2_with fail
  go_at_call 49
  refine H.out.1.mono ?_
  rintro e w1 ⟨rfl, m, hw⟩
  have v0 : w1.cell? ⟨R, q * 2, none⟩ = some (.string a) := by rw [hw]; exact H.out.2.2.1
  have v1 : w1.cell? ⟨R, q * 2 + 1, none⟩ = some (.string c) := by rw [hw]; exact H.out.2.2.2.1
  have k0 : w1.heap[w.heap.size]? = some (.cells #[.string ⟨#[]⟩, .string ⟨#[]⟩] 41 (0, 0)) := by rw [hw]; exact H.out.2.2.2.2.1
  have y0 : w1.cell? ⟨w.heap.size, 0, none⟩ = some (.string ⟨#[]⟩) := by rw [hw]; exact H.out.2.2.2.2.2.1
  have y1 : w1.cell? ⟨w.heap.size, 1, none⟩ = some (.string ⟨#[]⟩) := by rw [hw]; exact H.out.2.2.2.2.2.2.1
  have f0 : w1.frozen? ⟨w.heap.size, 0, none⟩ = false := by rw [hw]; exact H.out.2.2.2.2.2.2.2.1
  have f1 : w1.frozen? ⟨w.heap.size, 1, none⟩ = false := by rw [hw]; exact H.out.2.2.2.2.2.2.2.2
  have B1 : Below w.heap.size w w1 := by rw [hw]; exact below_drewN H.out.2.1 m
  have H1 : Hid _ := And.intro k0 B1
  clear hw k0 B1
  go_wp2
  try simp only [Exit.inBlock, Exit.then]
  refine bodyPost_ret (v := .tuple #[.agg #[.string a, .string c], .int .i64 0]) ?_ rfl ?_
  · refine results_rt (ty := 41) rfl _ _ w.heap.size 41 _ (0, 0) _ _ rfl rfl ?_ Try.underlying41 rfl infoFd
    rw [bk_set (bk_set H1.out.1 0 _) 1 _]
    rfl
  · exact ⟨rfl, (H1.out.2.setCell (p := ⟨w.heap.size, 0, none⟩) (Nat.le_refl _) _).setCell (p := ⟨w.heap.size, 1, none⟩) (Nat.le_refl _) _⟩
theorem tg_len (t : TB) (h : tOK t = true) : t.nums ∧ t.es.length ≤ 124 := by
  unfold tOK at h
  simp only [Bool.and_eq_true, decide_eq_true_eq] at h
  obtain ⟨⟨h1, h2⟩, h3⟩ := h
  refine ⟨h1, ?_⟩
  obtain ⟨a1, a2, a3, a4, a5, a6⟩ := h1
  have key : ∀ L : List SField, fsOK L = true → 33 * (L.length : Int) ≤ csts L := by
    intro L
    induction L with
    | nil => intro _; simp [csts]
    | cons x l ih =>
      intro hx
      simp only [fsOK, List.all_cons, Bool.and_eq_true] at hx
      have h5 := ih hx.2
      have h6 : 1 ≤ x.f0.size := by
        have := hx.1
        simp only [fOK, nOK, Bool.and_eq_true, decide_eq_true_eq] at this
        exact this.1.1.1
      simp only [csts, cst, List.length_cons]
      omega
  have := key t.es h2
  omega
set_option maxHeartbeats 1000000 in
theorem tgS (t : TB) (s : Value) (i : Int) (w : World) (hr : GRow 2 w s (SField.L t.es)) (hn : t.es.length ≤ 1048576) (ht : txs t.es ≤ 1048576) :
    Calls Try.prog 20 #[tV t s, .int .i64 i] w fun e w' => e = .returned (.tuple #[fV (tgR t i).1, .int .i64 (tgR t i).2]) ∧ Below w.heap.size w w' := by
  have A0 := (After.new w (.cells #[.int .i64 t.mo, .int .i64 t.ca, .int .i64 t.ad, s] 29)).next ((Below.refl _ _).alloc (Nat.le_refl _) (.cells #[.string ⟨#[]⟩, .string ⟨#[]⟩] 41))
  have N0 := After.new (w.alloc (.cells #[.int .i64 t.mo, .int .i64 t.ca, .int .i64 t.ad, s] 29)) (.cells #[.string ⟨#[]⟩, .string ⟨#[]⟩] 41)
  have zal : (w.alloc (.cells #[.int .i64 t.mo, .int .i64 t.ca, .int .i64 t.ad, s] 29)).heap.size = w.heap.size + 1 := by simp
  have KN : Hid (∀ u, After (w.alloc (.cells #[.int .i64 t.mo, .int .i64 t.ca, .int .i64 t.ad, s] 29)) (.cells #[.string ⟨#[]⟩, .string ⟨#[]⟩] 41) u → u.heap[w.heap.size + 1]? = some (.cells #[.string ⟨#[]⟩, .string ⟨#[]⟩] 41 (0, 0)) ∧ u.cell? ⟨w.heap.size + 1, 0, none⟩ = some (.string ⟨#[]⟩) ∧ u.cell? ⟨w.heap.size + 1, 1, none⟩ = some (.string ⟨#[]⟩) ∧ u.frozen? ⟨w.heap.size + 1, 0, none⟩ = false ∧ u.frozen? ⟨w.heap.size + 1, 1, none⟩ = false) := fun u hu => by have := hu.cells2; rw [zal] at this; exact this
  have CT : ∀ u, Below w.heap.size w u → _ := fun u hb => tokS t s u (hr.below hb) hn ht
  obtain ⟨ao, cp, rfl⟩ := frow_form hr
  cases eK : tOK t with
  | false =>
    have e0 : tgR t i = (default, 1) := by simp [tgR, eK]
    rw [e0]
    rw [eK] at CT
    have H : Hid _ := And.intro CT (And.intro A0 N0)
    obtain ⟨n, en⟩ : ∃ n, n = t.es.length := ⟨_, rfl⟩
    rw [← en] at H KN ⊢
    clear CT A0 N0 zal hr hn ht eK e0 en
    obtain ⟨mo, ca, ad, es⟩ := t
    unfold tV fV at *
    simp only at *
    go_enter Try.func20, Try.ntmps20
    go_wp2_with (go_at_call 8; refine (H.out.1 _ (After.below H.out.2.1)).mono ?_; rintro e w1 ⟨rfl, b1⟩; obtain ⟨k0, y0, y1, f0, f1⟩ := KN.out w1 (H.out.2.2.next b1); have H1 : Hid _ := And.intro k0 (After.below (H.out.2.1.next b1)); clear b1 k0)
    try simp only [Exit.inBlock, Exit.then]
    refine bodyPost_ret (v := .tuple #[.agg #[.string ⟨#[]⟩, .string ⟨#[]⟩], .int .i64 1]) ?_ rfl ?_
    · refine results_rt (ty := 41) rfl _ _ (w.heap.size + 1) 41 _ (0, 0) _ _ rfl rfl ?_ Try.underlying41 rfl infoFd
      rw [bk_set (bk_set H1.out.1 0 _) 1 _]
      rfl
    · exact ⟨rfl, (H1.out.2.setCell (p := ⟨w.heap.size + 1, 0, none⟩) (by show w.heap.size ≤ w.heap.size + 1; omega) _).setCell (p := ⟨w.heap.size + 1, 1, none⟩) (by show w.heap.size ≤ w.heap.size + 1; omega) _⟩
  | true =>
    obtain ⟨hnu, h124⟩ := tg_len t eK
    obtain ⟨a1, a2, a3, a4, a5, a6⟩ := hnu
    rw [eK] at CT
    have CG : ∃ (x : SField) (b : Bool), ((b = false ∧ tgR t i = (default, 16)) ∨ (b = true ∧ tgR t i = (x, 0))) ∧ ∀ u, Below w.heap.size w u → Calls Try.prog 39 #[tV t (.slice ao t.es.length cp), .int .i64 i] u fun e w' => e = .returned (.tuple #[fV x, .bool b]) ∧ Below u.heap.size u w' := by
      by_cases h : i < t.ad - t.es.length ∨ t.ad ≤ i
      · exact ⟨default, false, Or.inl ⟨rfl, by simp [tgR, eK, h]⟩, fun u hb => getS_no _ _ _ i ao _ cp u (by omega) a5 a6 h⟩
      · obtain ⟨f, ef⟩ := Int.eq_ofNat_of_zero_le (show 0 ≤ t.ad - t.es.length by omega)
        obtain ⟨j, ej⟩ := Int.eq_ofNat_of_zero_le (show 0 ≤ i - (t.ad - t.es.length) by omega)
        refine ⟨t.es.getD j default, true, Or.inr ⟨rfl, ?_⟩, fun u hb => getS_at _ _ _ i ao _ cp f j t.es u rfl (by omega) (by omega) a6 (by omega) (by omega) (hr.below hb)⟩
        unfold tgR
        rw [if_neg (by rw [eK]; decide), if_neg h, ej]
        rfl
    obtain ⟨x, b, hxb, CG⟩ := CG
    have H : Hid _ := And.intro CT (And.intro A0 (And.intro N0 CG))
    obtain ⟨n, en⟩ : ∃ n, n = t.es.length := ⟨_, rfl⟩
    rw [← en] at H KN ⊢
    clear CT A0 N0 CG zal hr hn ht eK en a1 a2 a3 a4 a5 a6 h124
    rcases hxb with ⟨rfl, e0⟩ | ⟨rfl, e0⟩
    · rw [e0]
      clear e0
      obtain ⟨mo, ca, ad, es⟩ := t
      obtain ⟨xa, xc⟩ := x
      unfold tV fV at *
      simp only at *
      go_enter Try.func20, Try.ntmps20
      go_wp2_with fail
      go_at_call 8
      refine (H.out.1 _ (After.below H.out.2.1)).mono ?_
      rintro e w1 ⟨rfl, b1⟩
      obtain ⟨d0, d1, d2, d3⟩ := (H.out.2.1.next b1).cells
      have H1 : Hid _ := And.intro (H.out.2.1.next b1) (H.out.2.2.1.next b1)
      clear b1
      go_wp2_with fail
      go_at_call 39
      refine (H.out.2.2.2 _ (After.below H1.out.1)).mono ?_
      rintro e w2 ⟨rfl, b2⟩
      obtain ⟨k0, y0, y1, f0, f1⟩ := KN.out _ (H1.out.2.next b2)
      have zl : w.heap.size + 1 < w2.heap.size := (Array.getElem?_eq_some_iff.1 k0).1
      have H2 : Hid _ := And.intro k0 (After.below (H1.out.1.next b2))
      clear b2 k0
      go_wp2
      try simp only [Exit.inBlock, Exit.then]
      refine bodyPost_ret (v := .tuple #[.agg #[.string ⟨#[]⟩, .string ⟨#[]⟩], .int .i64 16]) ?_ rfl ?_
      · refine results_rt (ty := 41) rfl _ _ (w.heap.size + 1) 41 _ (0, 0) _ _ rfl rfl ?_ Try.underlying41 rfl infoFd
        have e9 := bk_set (bk_set H2.out.1 0 (.string ⟨#[]⟩)) 1 (.string ⟨#[]⟩)
        exact (Below.heap_alloc _ _ _ (Array.getElem?_eq_some_iff.1 e9).1).trans e9
      · exact ⟨rfl, ((H2.out.2.setCell (p := ⟨w.heap.size + 1, 0, none⟩) (by show w.heap.size ≤ w.heap.size + 1; omega) _).setCell (p := ⟨w.heap.size + 1, 1, none⟩) (by show w.heap.size ≤ w.heap.size + 1; omega) _).alloc (by have := H2.out.2.size; simpa [World.setCell] using this) _⟩
    · rw [e0]
      clear e0
      obtain ⟨mo, ca, ad, es⟩ := t
      obtain ⟨xa, xc⟩ := x
      unfold tV fV at *
      simp only at *
      go_enter Try.func20, Try.ntmps20
      go_wp2_with fail
      go_at_call 8
      refine (H.out.1 _ (After.below H.out.2.1)).mono ?_
      rintro e w1 ⟨rfl, b1⟩
      obtain ⟨d0, d1, d2, d3⟩ := (H.out.2.1.next b1).cells
      have H1 : Hid _ := And.intro (H.out.2.1.next b1) (H.out.2.2.1.next b1)
      clear b1
      go_wp2_with fail
      go_at_call 39
      refine (H.out.2.2.2 _ (After.below H1.out.1)).mono ?_
      rintro e w2 ⟨rfl, b2⟩
      obtain ⟨k0, y0, y1, f0, f1⟩ := KN.out _ (H1.out.2.next b2)
      have zl : w.heap.size + 1 < w2.heap.size := (Array.getElem?_eq_some_iff.1 k0).1
      have H2 : Hid _ := And.intro k0 (After.below (H1.out.1.next b2))
      clear b2 k0
      go_wp2
      try simp only [Exit.inBlock, Exit.then]
      refine bodyPost_ret (v := .tuple #[.agg #[.string xa, .string xc], .int .i64 0]) ?_ rfl ?_
      · refine results_rt (ty := 41) rfl _ _ (w.heap.size + 1) 41 _ (0, 0) _ _ rfl rfl ?_ Try.underlying41 rfl infoFd
        have e9 := bk_set (bk_set H2.out.1 0 (.string xa)) 1 (.string xc)
        exact (Below.heap_alloc _ _ _ (Array.getElem?_eq_some_iff.1 e9).1).trans e9
      · exact ⟨rfl, ((H2.out.2.setCell (p := ⟨w.heap.size + 1, 0, none⟩) (by show w.heap.size ≤ w.heap.size + 1; omega) _).setCell (p := ⟨w.heap.size + 1, 1, none⟩) (by show w.heap.size ≤ w.heap.size + 1; omega) _).alloc (by have := H2.out.2.size; simpa [World.setCell] using this) _⟩
end Go.Proofs.Ytabnicgbcedddaa
