import Derived.Test.YtjikdecfampbiaaPhA
namespace Go.Proofs.Ytjikdecfampbiaa
open Go.RowKit
set_option linter.unusedVariables false
set_option linter.unusedSimpArgs false

theorem arr_set {cs : Array Value} {i : Nat} (u : Value) (j : Nat) : (cs.setIfInBounds i u)[j]? = if i = j ∧ i < cs.size then some u else cs[j]? := by
  rw [Array.getElem?_setIfInBounds]
  by_cases e : i = j
  · subst e
    rw [if_pos rfl]
    by_cases h : i < cs.size
    · rw [if_pos h, if_pos ⟨rfl, h⟩]
    · rw [if_neg h, if_neg (fun x => h x.2), Array.getElem?_eq_none (by omega)]
  · rw [if_neg e, if_neg (fun x => e x.1)]
section
variable {w w' : World} {g : Nat} {m : PX} {wv : Value}
theorem PB.drewN (h : PB w g m wv) (n : Nat) : PB (w.drewN n) g m wv := h
theorem PB.bk (h : PB w g m wv) : ∃ cs : Array Value, w.heap[g]? = some (.cells cs 65 (0, 0)) := by
  obtain ⟨cs, b, _⟩ := h
  exact ⟨cs, b⟩
theorem PB.same (h : PB w g m wv) (e : w'.heap[g]? = w.heap[g]?) : PB w' g m wv := by
  obtain ⟨cs, b, r⟩ := h
  exact ⟨cs, e.trans b, r⟩
theorem PB.setAd (h : PB w g m wv) (a : Nat) : PB (w.setCell ⟨g, 1, none⟩ (.int .i64 (a : Int))) g { m with ad := a } wv := by
  obtain ⟨cs, b, s, c0, c1, ck, cw⟩ := h
  refine ⟨_, bk_set b 1 _, by simpa using s, ?_, ?_, fun k hk => ⟨?_, ?_, ?_⟩, ?_⟩
  · rw [arr_set, if_neg (by omega)]; exact c0
  · rw [arr_set, if_pos ⟨rfl, by omega⟩]
  · rw [arr_set, if_neg (by omega)]; exact (ck k hk).1
  · rw [arr_set, if_neg (by omega)]; exact (ck k hk).2.1
  · rw [arr_set, if_neg (by omega)]; exact (ck k hk).2.2
  · rw [arr_set, if_neg (by omega)]; exact cw
theorem PB.setCm (h : PB w g m wv) (a : Nat) (ha : a < 256) (x : Int) : PB (w.setCell ⟨g, 2 + a * 3, none⟩ (.int .i64 x)) g { m with cm := updF m.cm a x } wv := by
  obtain ⟨cs, b, s, c0, c1, ck, cw⟩ := h
  refine ⟨_, bk_set b _ _, by simpa using s, ?_, ?_, fun k hk => ⟨?_, ?_, ?_⟩, ?_⟩
  · rw [arr_set, if_neg (by omega)]; exact c0
  · rw [arr_set, if_neg (by omega)]; exact c1
  · show _ = some (Value.int .i64 (updF m.cm a x k))
    by_cases e : k = a
    · subst e; rw [arr_set, if_pos ⟨rfl, by omega⟩, updF_at]
    · rw [arr_set, if_neg (by omega), updF_ne _ _ _ _ e]; exact (ck k hk).1
  · rw [arr_set, if_neg (by omega)]; exact (ck k hk).2.1
  · rw [arr_set, if_neg (by omega)]; exact (ck k hk).2.2
  · rw [arr_set, if_neg (by omega)]; exact cw
theorem PB.setSt (h : PB w g m wv) (a : Nat) (ha : a < 256) (x : Int) : PB (w.setCell ⟨g, 2 + a * 3 + 1, none⟩ (.int .i64 x)) g { m with st := updF m.st a x } wv := by
  obtain ⟨cs, b, s, c0, c1, ck, cw⟩ := h
  refine ⟨_, bk_set b _ _, by simpa using s, ?_, ?_, fun k hk => ⟨?_, ?_, ?_⟩, ?_⟩
  · rw [arr_set, if_neg (by omega)]; exact c0
  · rw [arr_set, if_neg (by omega)]; exact c1
  · rw [arr_set, if_neg (by omega)]; exact (ck k hk).1
  · show _ = some (Value.int .i64 (updF m.st a x k))
    by_cases e : k = a
    · subst e; rw [arr_set, if_pos ⟨rfl, by omega⟩, updF_at]
    · rw [arr_set, if_neg (by omega), updF_ne _ _ _ _ e]; exact (ck k hk).2.1
  · rw [arr_set, if_neg (by omega)]; exact (ck k hk).2.2
  · rw [arr_set, if_neg (by omega)]; exact cw
theorem PB.setVa (h : PB w g m wv) (a : Nat) (ha : a < 256) (x : Bool) : PB (w.setCell ⟨g, 2 + a * 3 + 2, none⟩ (.bool x)) g { m with va := updF m.va a x } wv := by
  obtain ⟨cs, b, s, c0, c1, ck, cw⟩ := h
  refine ⟨_, bk_set b _ _, by simpa using s, ?_, ?_, fun k hk => ⟨?_, ?_, ?_⟩, ?_⟩
  · rw [arr_set, if_neg (by omega)]; exact c0
  · rw [arr_set, if_neg (by omega)]; exact c1
  · rw [arr_set, if_neg (by omega)]; exact (ck k hk).1
  · rw [arr_set, if_neg (by omega)]; exact (ck k hk).2.1
  · show _ = some (Value.bool (updF m.va a x k))
    by_cases e : k = a
    · subst e; rw [arr_set, if_pos ⟨rfl, by omega⟩, updF_at]
    · rw [arr_set, if_neg (by omega), updF_ne _ _ _ _ e]; exact (ck k hk).2.2
  · rw [arr_set, if_neg (by omega)]; exact cw
theorem PB.setW (h : PB w g m wv) (wv' : Value) (ws : List (List Int × Nat)) : PB (w.setCell ⟨g, 770, none⟩ wv') g { m with ws := ws } wv' := by
  obtain ⟨cs, b, s, c0, c1, ck, cw⟩ := h
  refine ⟨_, bk_set b _ _, by simpa using s, ?_, ?_, fun k hk => ⟨?_, ?_, ?_⟩, ?_⟩
  · rw [arr_set, if_neg (by omega)]; exact c0
  · rw [arr_set, if_neg (by omega)]; exact c1
  · rw [arr_set, if_neg (by omega)]; exact (ck k hk).1
  · rw [arr_set, if_neg (by omega)]; exact (ck k hk).2.1
  · rw [arr_set, if_neg (by omega)]; exact (ck k hk).2.2
  · rw [arr_set, if_pos ⟨rfl, by omega⟩]
/-- A store into the paths leaves the challenges. -/
theorem PB.off {base i : Nat} {u : Value} {v : Value} {L : List (List Value)} (h : PB w g m wv) (o : OffR 80 9 w base v L) : OffR 80 9 (w.setCell ⟨g, i, none⟩ u) base v L := by
  obtain ⟨cs, b⟩ := h.bk
  exact o.set b (by decide)
end
theorem ChS.setG {T : TypeId} {g base : Nat} {w w1 : World} (h : ChS (fun k => k = g) T base w w1) (hb : base ≤ g) (o : Nat) (v : Value) : ChS (fun k => k = g) T base w (w1.setCell ⟨g, o, none⟩ v) := h.setS rfl hb o v
/-- What a method of the program's paths leaves. -/
def PDo (g base : Nat) (w w' : World) (m' : PX) : Prop := PRep w' g base m' ∧ ChS (fun k => k = g) 80 base w w'
set_option maxRecDepth 20000 in
set_option maxHeartbeats 1000000 in
theorem hearI (g base : Nat) (m : PX) (a : Nat) (n : Int) (i : Nat) (w : World) (h : PRep w g base m) (hg : base ≤ g) (hI : PXI i m) (hi : i ≤ 300) (ha : a < 256) (hn : 0 ≤ n ∧ n ≤ 2000) :
    Calls Try.prog 29 #[.pointer (some ⟨g, 0, none⟩), .int .i64 (a : Int), .int .i64 n] w fun e w' => e = .returned (.int .i64 (if m.srv = false ∧ (a : Int) ≠ m.ad then 7 else 0)) ∧ PDo g base w w' (if m.srv = false ∧ (a : Int) ≠ m.ad then m else { m with ad := a, cm := updF m.cm a (m.cm a + n) }) := by
  obtain ⟨wv, hB, hO⟩ := h
  have d0 := hB.c0
  have d1 := hB.c1
  have f1 := hB.free 1
  by_cases hc : m.srv = false ∧ (a : Int) ≠ m.ad
  · rw [if_pos hc, if_pos hc]
    rw [hc.1] at d0
    have hne : ((a : Int) != (m.ad : Int)) = true := by simpa using hc.2
    have HH : Hid _ := And.intro hB hO
    clear hB hO hc
    generalize m.ad = ad at *
    go_enter Try.func29, Try.ntmps29
    go_wp2
    go_ret
    exact ⟨rfl, ⟨wv, HH.out.1, HH.out.2⟩, ChS.refl _ _ _ _⟩
  · rw [if_neg hc, if_neg hc]
    have B1 := hB.setAd a
    have U := inUseI g _ wv _ B1 ha
    have k1 := (B1.ck a ha).1
    have k2 := B1.free (2 + a * 3)
    have cm := hI.cm a
    have HB : Hid _ := And.intro hB (And.intro hO (And.intro B1 (And.intro U hg)))
    dsimp only at k1
    obtain ⟨x, ex⟩ : ∃ x, x = m.cm a := ⟨_, rfl⟩
    rw [← ex] at k1 cm
    rw [← ex]
    have hx : Hid (x = m.cm a) := ex
    have fin' : ∀ q : Nat, PDo g base w (((w.setCell ⟨g, 1, none⟩ (.int .i64 (a : Int))).drewN q).setCell ⟨g, 2 + a * 3, none⟩ (.int .i64 (x + n))) { m with ad := a, cm := updF m.cm a (x + n) } := fun q => ⟨⟨wv, B1.setCm a ha _, B1.off (hB.off hO)⟩, (((ChS.refl _ _ _ _).setG hg 1 _).drewN q).setG hg _ _⟩
    have HF : Hid _ := And.intro fin' True.intro
    clear hO B1 U ex fin' hB
    by_cases hs : m.srv = false
    · have he : (a : Int) = m.ad := by
        by_cases q : (a : Int) = m.ad
        · exact q
        · exact absurd ⟨hs, q⟩ hc
      have hne : ((a : Int) != (m.ad : Int)) = false := by simpa using he
      rw [hs] at d0
      have Hhe : Hid _ := And.intro he (And.intro hs hc)
      clear he hs hc
      go_enter Try.func29, Try.ntmps29
      go_wp2_with fail
      go_at_call 35
      refine HB.out.2.2.2.1.mono ?_
      rintro e w1 ⟨rfl, q, hw⟩
      subst hw
      go_wp2_with fail
      go_ret
      exact ⟨rfl, HF.out.1 q⟩
    · have hs : m.srv = true := by simpa using hs
      rw [hs] at d0
      have Hhe : Hid _ := And.intro hs hc
      clear hs hc
      go_enter Try.func29, Try.ntmps29
      go_wp2_with fail
      go_at_call 35
      refine HB.out.2.2.2.1.mono ?_
      rintro e w1 ⟨rfl, q, hw⟩
      subst hw
      go_wp2_with fail
      go_ret
      exact ⟨rfl, HF.out.1 q⟩
set_option maxRecDepth 20000 in
set_option maxHeartbeats 1000000 in
theorem sendI (g base : Nat) (m : PX) (n : Int) (i : Nat) (w : World) (h : PRep w g base m) (hg : base ≤ g) (hI : PXI i m) (hi : i ≤ 300) (hn : 0 ≤ n ∧ n ≤ 2000) :
    Calls Try.prog 30 #[.pointer (some ⟨g, 0, none⟩), .int .i64 n] w fun e w' => e = .returned (.int .i64 (if m.may < n then 8 else 0)) ∧ PDo g base w w' (if m.may < n then m else { m with st := updF m.st m.ad (m.st m.ad + n) }) := by
  obtain ⟨wv, hB, hO⟩ := h
  have ha := hI.ad
  have U : ∀ W : World, PB W g m wv → Calls Try.prog 35 #[.pointer (some ⟨g, 0, none⟩)] W fun e w' => e = .returned (.pointer (some ⟨g, 2 + m.ad * 3, none⟩)) ∧ ∃ n, w' = W.drewN n := fun W b => inUseI g m wv W b ha
  obtain ⟨k1, k2, k3⟩ := hB.ck m.ad ha
  have cm := hI.cm m.ad
  have st := hI.st m.ad
  have f1 := hB.free (2 + m.ad * 3 + 1)
  have M : ∀ W : World, Calls Try.prog 36 #[.agg #[.int .i64 (m.cm m.ad), .int .i64 (m.st m.ad), .bool (m.va m.ad)]] W fun e w' => e = .returned (.int .i64 m.may) ∧ Below W.heap.size W w' := fun W => mayI _ _ _ W (by omega) (by omega)
  have HB : Hid _ := And.intro hB (And.intro hO (And.intro U (And.intro M hg)))
  have may := hI.may hi
  obtain ⟨ad, ead⟩ : ∃ ad, ad = m.ad := ⟨_, rfl⟩
  obtain ⟨x, ex⟩ : ∃ x, x = m.cm m.ad := ⟨_, rfl⟩
  obtain ⟨y, ey⟩ : ∃ x, x = m.st m.ad := ⟨_, rfl⟩
  obtain ⟨t, et⟩ : ∃ x, x = m.va m.ad := ⟨_, rfl⟩
  obtain ⟨mm, em⟩ : ∃ x, x = m.may := ⟨_, rfl⟩
  rw [← ex, ← ey, ← et, ← em, ← ead] at HB
  rw [← ex, ← ead] at k1
  rw [← ey, ← ead] at k2
  rw [← et, ← ead] at k3
  rw [← ead] at f1 ha
  rw [← ey] at st
  rw [← em] at may
  rw [← em, ← ey, ← ead]
  have HE : Hid _ := And.intro ead (And.intro ex (And.intro ey (And.intro et em)))
  clear hB hO U M ead ex ey et em cm
  by_cases hc : mm < n
  · rw [if_pos hc, if_pos hc]
    go_enter Try.func30, Try.ntmps30
    go_wp2_with fail
    go_at_call 35
    refine (HB.out.2.2.1 w HB.out.1).mono ?_
    rintro e w1 ⟨rfl, q, hw⟩
    subst hw
    go_wp2_with fail
    go_at_call 36
    refine (HB.out.2.2.2.1 (w.drewN q)).mono ?_
    rintro e w2 ⟨rfl, b2⟩
    have H2 : Hid _ := And.intro b2 True.intro
    clear b2
    go_wp2_with fail
    go_ret
    have hb : Below w.heap.size w w2 := (Below.refl _ _ |> fun z => below_drewN z q).trans H2.out.1
    exact ⟨rfl, ⟨wv, HB.out.1.same (hb.block g HB.out.1.lt), HB.out.2.1.below hb⟩, ChS.of_below hb⟩
  · rw [if_neg hc, if_neg hc]
    go_enter Try.func30, Try.ntmps30
    go_wp2_with fail
    go_at_call 35
    refine (HB.out.2.2.1 w HB.out.1).mono ?_
    rintro e w1 ⟨rfl, q, hw⟩
    subst hw
    go_wp2_with fail
    go_at_call 36
    refine (HB.out.2.2.2.1 (w.drewN q)).mono ?_
    rintro e w2 ⟨rfl, b2⟩
    have hb : Below w.heap.size w w2 := (Below.refl _ _ |> fun z => below_drewN z q).trans b2
    have B2 : PB w2 g m wv := HB.out.1.same (hb.block g HB.out.1.lt)
    have z1 : w2.cell? ⟨g, 2 + ad * 3 + 1, none⟩ = some (.int .i64 y) := (hb.cell (p := ⟨g, 2 + ad * 3 + 1, none⟩) HB.out.1.lt).trans k2
    have z2 := B2.free (2 + ad * 3 + 1)
    have H2 : Hid _ := And.intro hb B2
    clear b2 hb B2 f1 k1 k2 k3
    go_wp2_with fail
    go_at_call 35
    refine (HB.out.2.2.1 w2 H2.out.2).mono ?_
    rintro e w3 ⟨rfl, q3, hw⟩
    subst hw
    go_wp2_with fail
    go_ret
    have B3 := (H2.out.2.drewN q3).setSt ad ha (y + n)
    rw [HE.out.1, HE.out.2.2.1] at B3 ⊢
    have o2 := HB.out.2.1.below H2.out.1
    exact ⟨rfl, ⟨wv, B3, (H2.out.2.drewN q3).off o2⟩, ((ChS.of_below H2.out.1).drewN q3).setG HB.out.2.2.2.2 _ _⟩
end Go.Proofs.Ytjikdecfampbiaa
