import Derived.Test.YtohooehbjbhhhaaDoorRhD
import Derived.Test.YtohooehbjbhhhaaDoorHyE
namespace Go.Proofs.YtohooehbjbhhhaaDoor
open Go.RowKit
set_option linter.unusedVariables false

/-- Amid the settings. -/
structure PsI (fb g Q n cap : Nat) (ao : Option Addr) (ys : List Int) (w wr : World) (p f : Nat) (L : List SSetting) (s : Value) : Prop where
  rd : rdB wr g (.slice ao n cap) (p : Int)
  fr : fB wr fb 4 0 (.slice none 0 0) s
  sh : wr.heap[Q]? = some (.cells #[.bool false, .int .i64 0, .int .i64 16] 63 (0, 0))
  ow : GOwns 40 2 wr (Q + 1) s (SSetting.L L)
  ch : Chg (SG g fb) w wr
  pn : p ≤ n
  fu : n ≤ p + f
  le : L.length + f ≤ n
  al : prs ys ys.length 0 = (prs ys f p).map (fun M => L ++ M)
theorem map_more (ys : List Int) (f p : Nat) (L : List SSetting) (x : SSetting) : ((prs ys f p).map (fun M => x :: M)).map (fun M => L ++ M) = (prs ys f p).map (fun M => (L ++ [x]) ++ M) := by
  cases prs ys f p with
  | none => rfl
  | some M => simp
theorem GOwns.own {T : TypeId} {K base : Nat} {w : World} {v : Value} {L : List (List Value)} (h : GOwns T K w base v L) : ∀ j, v.ownBlock = some j → base ≤ j := by
  obtain ⟨zs, ho, _⟩ := h
  exact fun j hj => (ho.lt j hj).1
theorem grown_chg {S : Nat → Prop} {w w' : World} {r : Option Nat} (h : w.grownBy w' r) (hr : ∀ k, r = some k → S k) : Chg S w w' :=
  ⟨h.os, h.tape, h.output, h.size, fun k hk hs => h.block k hk (fun e => hs (hr k e.symm))⟩
set_option maxRecDepth 20000 in
set_option maxHeartbeats 4000000 in
theorem pay_s (fb g : Nat) (ao : Option Addr) (n cap : Nat) (ys : List Int) (w : World) (ht : Tab w) (hf : fB w fb 4 0 (.slice none 0 0) (.slice none 0 0)) (hr : rdB w g (.slice ao n cap) 0) (hl : Pay w ao n cap ys) (hB : Bytes ys) (hg : Off ao (SG g fb)) (hne : fb ≠ g) (hn : n ≤ 65536) (hTg : ¬ SG g fb 1) :
    Calls Tryd.prog 21 #[.pointer (some ⟨fb, 0, none⟩), .pointer (some ⟨g, 0, none⟩)] w fun e w' => Chg (SG g fb) w w' ∧ ((prs ys ys.length 0 = none ∧ e = .panicked [leftP 2]) ∨ ∃ L, prs ys ys.length 0 = some L ∧ e = .returned (.tuple #[]) ∧ PayR w w' fb 4 ⟨4, 0, [], L⟩) := by
  have c0 := hf.c0
  have SH := shapeI 4 w
  rw [show shN 4 = false by decide, show shS 4 = 16 by decide, show shD 4 = 0 by decide] at SH
  have hlen := hl.len
  have VR : ∀ (p : Nat) (u : World), Tab u → rdB u g (.slice ao n cap) (p : Int) → Pay u ao n cap ys → varOK ys p → _ := fun p u h0 h1 h2 hv => varP g ao n cap p ys u h0 h1 h2 hB hn hv
  have VN : ∀ (p : Nat) (u : World), Tab u → rdB u g (.slice ao n cap) (p : Int) → Pay u ao n cap ys → p ≤ n → ¬ varOK ys p → _ := fun p u h0 h1 h2 hp hv => varPn g ao n cap p ys u h0 h1 h2 hB hn hp hv
  have TK : ∀ (p : Nat) (u : World), rdB u g (.slice ao n cap) (p : Int) → Pay u ao n cap ys → p ≤ n → _ := fun p u h1 h2 hp => takeP g ao n cap p ys u h1 h2 (fun b off e hb => hg b off e (Or.inl hb)) hn hp
  have hsn : n ≤ 9223372036854775807 := by omega
  have hfs := hf.lt
  have hgs := hr.lt
  have TB : ∀ u, Chg (SG g fb) w u → Tab u := fun u hc => ht.chg hc hTg
  have PY : ∀ u, Chg (SG g fb) w u → Pay u ao n cap ys := fun u hc => hl.chg hc hg
  have HH : Hid _ := And.intro SH (And.intro VR (And.intro VN (And.intro TK (And.intro TB (And.intro PY (And.intro hf (And.intro hr hlen)))))))
  have HN : Hid _ := And.intro hn True.intro
  clear SH VR VN TK TB PY hf hr hl hg hB hn ht hlen
  go_enter Tryd.func21, Tryd.ntmps21
  go_wp2_with fail
  go_at_call 36
  refine HH.out.1.mono ?_
  rintro e w1 ⟨rfl, b1⟩
  have hz : w.heap.size ≤ w1.heap.size := b1.size
  have bb : Below w.heap.size w (w1.alloc (.cells #[.bool false, .int .i64 0, .int .i64 16] 63)) := b1.alloc b1.size _
  have I0 : PsI fb g w1.heap.size n cap ao ys w (w1.alloc (.cells #[.bool false, .int .i64 0, .int .i64 16] 63)) 0 n [] (.slice none 0 0) :=
    ⟨HH.out.2.2.2.2.2.2.2.1.below bb, HH.out.2.2.2.2.2.2.1.chg (S := fun _ => False) (Chg.of_below bb) (fun h => h), heap_alloc_new w1 _, GOwns.nil _ _ _ _, Chg.of_below bb, by omega, by omega, by simp, by rw [HH.out.2.2.2.2.2.2.2.2]; cases prs ys n 0 <;> simp⟩
  have H1 : Hid _ := And.intro I0 True.intro
  clear bb b1 I0 c0
  go_wp2_with fail
  go_loopg [] n (fun q wr => ∃ p f L s, q = n - p ∧ PsI fb g w1.heap.size n cap ao ys w wr p f L s)
  case atStart => exact ⟨0, n, [], _, by omega, H1.out.1⟩
  case round =>
    obtain ⟨p, f, L, s, rfl, I⟩ := hrel
    have RS := restC g ao n cap (p : Int) wr I.rd ⟨by omega, by have := I.pn; omega⟩ hsn
    have s2 := bk_cell I.sh 2
    simp at s2
    by_cases hpn : p < n
    · have hgt : (0 : Int) < (n : Int) - p := by omega
      have HI : Hid _ := And.intro I True.intro
      clear I H1
      go_wp2_with fail
      go_at_call 35
      refine RS.mono ?_
      rintro e w2 ⟨rfl, hw2⟩
      subst hw2
      have I := HI.out.1
      have C2 : Chg (SG g fb) w wr.drew.drew := I.ch.drew.drew
      have hpz := I.ow.own
      obtain ⟨sa, sc, es⟩ := I.ow.row.form
      obtain ⟨sn, esn⟩ : ∃ sn, sn = (SSetting.L L).length := ⟨_, rfl⟩
      rw [← esn] at es
      subst es
      clear esn
      have f3 : wr.drew.drew.cell? ⟨fb, 3, none⟩ = some (.slice sa sn sc) := I.fr.c3
      have T2 := HH.out.2.2.2.2.1 _ C2
      have P2 := HH.out.2.2.2.2.2.1 _ C2
      have tok1 : Hid True := trivial
      have tok2 : Hid True := trivial
      by_cases hv1 : varOK ys p
      case neg =>
        have V1 := HH.out.2.2.1 p wr.drew.drew T2 I.rd P2 (by omega) hv1
        have hnone : prs ys ys.length 0 = none := by rw [I.al, prs_no ys f p (by have := HH.out.2.2.2.2.2.2.2.2; omega) (fun h => hv1 h.1)]; rfl
        have H3 : Hid _ := And.intro V1 (And.intro hnone C2)
        clear I C2 T2 P2 hv1 V1 hnone hpz RS
        go_wp2_with fail
        refine wp_region_any (by kernel_rfl) ?_
        change wpAny _ _ _ _ _ _ _ (World.drew _)
        refine wpAny_take (i := 0) (v := .pointer (some ⟨fb, 0, none⟩)) rfl (by kernel_rfl) (by kernel_rfl) (by kernel_rfl) (fun _ _ _ h => h) (Or.inl ⟨by rfl, fun u => by go_simp⟩) ?_
        refine wpAny_take (i := 1) (v := .pointer (some ⟨fb, 0, none⟩)) rfl (by kernel_rfl) (by kernel_rfl) (by kernel_rfl) (fun _ _ _ h => h) (Or.inl ⟨by rfl, fun u => by go_simp⟩) ?_
        refine wpAny_take (i := 2) (v := .pointer (some ⟨fb, 0, none⟩)) rfl (by kernel_rfl) (by kernel_rfl) (by kernel_rfl) (fun _ _ _ h => h) (Or.inl ⟨by rfl, fun u => by go_simp⟩) ?_
        refine wpAny_take (i := 3) (v := .pointer (some ⟨fb, 3, none⟩)) rfl (by kernel_rfl) (by kernel_rfl) (by kernel_rfl) (fun _ _ _ h => h) (Or.inl ⟨by rfl, fun u => by go_simp⟩) ?_
        refine wpAny_take (i := 5) (v := .pointer (some ⟨g, 0, none⟩)) rfl (by kernel_rfl) (by kernel_rfl) (by kernel_rfl) (fun _ _ _ h => h) (Or.inl ⟨by rfl, fun u => by go_simp⟩) ?_
        refine wpAny_take (i := 7) (v := .pointer (some ⟨g, 0, none⟩)) rfl (by kernel_rfl) (by kernel_rfl) (by kernel_rfl) (fun _ _ _ h => h) (Or.inl ⟨by rfl, fun u => by go_simp⟩) ?_
        refine wpAny_ready (rs := [4, 6]) (by kernel_rfl) (by simp) ?_
        refine AllReady.cons rfl (fun K hK => ?_) (AllReady.cons rfl (fun K hK => ?_) AllReady.nil)
        · go_simp
          refine hK _ _ ?_
          clear hK K
          refine wpAny_ready (rs := [6]) (by kernel_rfl) (by simp) ?_
          refine AllReady.cons rfl (fun K hK => ?_) AllReady.nil
          go_simp
          go_at_call 18
          refine H3.out.1.mono ?_
          rintro e wa ⟨rfl, ca⟩
          have H4 : Hid _ := And.intro (H3.out.2.2.trans (ca.mono fun q hq => Or.inl hq) : Chg (SG g fb) w wa) True.intro
          clear ca
          go_simp
          exact ⟨rfl, H4.out.1, Or.inl ⟨H3.out.2.1, rfl⟩⟩
        · go_simp
          go_at_call 18
          refine H3.out.1.mono ?_
          rintro e wa ⟨rfl, ca⟩
          have H4 : Hid _ := And.intro (H3.out.2.2.trans (ca.mono fun q hq => Or.inl hq) : Chg (SG g fb) w wa) True.intro
          clear ca
          go_simp
          exact ⟨rfl, H4.out.1, Or.inl ⟨H3.out.2.1, rfl⟩⟩
      case pos =>
      have hb1 := varN_bd ys p hv1
      have hln := HH.out.2.2.2.2.2.2.2.2
      have V1 := HH.out.2.1 p wr.drew.drew T2 I.rd P2 hv1
      by_cases hv2 : varOK ys (varN ys p)
      case neg =>
        have hnone : prs ys ys.length 0 = none := by rw [I.al, prs_no ys f p (by omega) (fun h => hv2 h.2)]; rfl
        have V2 : ∀ u, Chg (· = g) wr.drew.drew u → rdB u g (.slice ao n cap) ((varN ys p : Nat) : Int) → _ := fun u hc hrd => HH.out.2.2.1 (varN ys p) u (HH.out.2.2.2.2.1 _ (C2.trans (hc.mono fun q hq => Or.inl hq))) hrd (HH.out.2.2.2.2.2.1 _ (C2.trans (hc.mono fun q hq => Or.inl hq))) (by omega) hv2
        generalize varV ys p = A1 at *
        generalize varN ys p = N1 at *
        have H3 : Hid _ := And.intro V1 (And.intro hnone (And.intro C2 (And.intro V2 I.fr)))
        clear I C2 T2 P2 hv1 hv2 V1 V2 hnone hpz RS hb1 hln
        go_wp2_with fail
        refine wp_region_any (by kernel_rfl) ?_
        change wpAny _ _ _ _ _ _ _ (World.drew _)
        refine wpAny_take (i := 0) (v := .pointer (some ⟨fb, 0, none⟩)) rfl (by kernel_rfl) (by kernel_rfl) (by kernel_rfl) (fun _ _ _ h => h) (Or.inl ⟨by rfl, fun u => by go_simp⟩) ?_
        refine wpAny_take (i := 1) (v := .pointer (some ⟨fb, 0, none⟩)) rfl (by kernel_rfl) (by kernel_rfl) (by kernel_rfl) (fun _ _ _ h => h) (Or.inl ⟨by rfl, fun u => by go_simp⟩) ?_
        refine wpAny_take (i := 2) (v := .pointer (some ⟨fb, 0, none⟩)) rfl (by kernel_rfl) (by kernel_rfl) (by kernel_rfl) (fun _ _ _ h => h) (Or.inl ⟨by rfl, fun u => by go_simp⟩) ?_
        refine wpAny_take (i := 3) (v := .pointer (some ⟨fb, 3, none⟩)) rfl (by kernel_rfl) (by kernel_rfl) (by kernel_rfl) (fun _ _ _ h => h) (Or.inl ⟨by rfl, fun u => by go_simp⟩) ?_
        refine wpAny_take (i := 5) (v := .pointer (some ⟨g, 0, none⟩)) rfl (by kernel_rfl) (by kernel_rfl) (by kernel_rfl) (fun _ _ _ h => h) (Or.inl ⟨by rfl, fun u => by go_simp⟩) ?_
        refine wpAny_take (i := 7) (v := .pointer (some ⟨g, 0, none⟩)) rfl (by kernel_rfl) (by kernel_rfl) (by kernel_rfl) (fun _ _ _ h => h) (Or.inl ⟨by rfl, fun u => by go_simp⟩) ?_
        refine wpAny_ready (rs := [4, 6]) (by kernel_rfl) (by simp) ?_
        refine AllReady.cons rfl (fun K hK => ?_) (AllReady.cons rfl (fun K hK => ?_) AllReady.nil)
        · go_simp
          refine hK _ _ ?_
          clear hK K
          refine wpAny_ready (rs := [6]) (by kernel_rfl) (by simp) ?_
          refine AllReady.cons rfl (fun K hK => ?_) AllReady.nil
          go_simp
          go_at_call 18
          refine H3.out.1.mono ?_
          rintro e wa ⟨rfl, ra, ca⟩
          have f3a : wa.cell? ⟨fb, 3, none⟩ = some (.slice sa sn sc) := ((show fB wr.drew.drew fb 4 0 (.slice none 0 0) (.slice sa sn sc) from H3.out.2.2.2.2).chg ca hne).c3
          have H4 : Hid _ := And.intro ra ca
          clear ca ra
          refine hK _ _ ?_
          clear hK K
          refine wpAny_ready (rs := [8]) (by kernel_rfl) (by simp) ?_
          refine AllReady.cons rfl (fun K hK => ?_) AllReady.nil
          go_simp
          go_at_call 18
          refine (H3.out.2.2.2.1 wa H4.out.2 H4.out.1).mono ?_
          rintro e wb ⟨rfl, cb⟩
          have H5 : Hid _ := And.intro (H3.out.2.2.1.trans ((H4.out.2.trans cb).mono fun q hq => Or.inl hq) : Chg (SG g fb) w wb) True.intro
          clear cb
          go_simp
          exact ⟨rfl, H5.out.1, Or.inl ⟨H3.out.2.1, rfl⟩⟩
        · go_simp
          go_at_call 18
          refine H3.out.1.mono ?_
          rintro e wa ⟨rfl, ra, ca⟩
          have f3a : wa.cell? ⟨fb, 3, none⟩ = some (.slice sa sn sc) := ((show fB wr.drew.drew fb 4 0 (.slice none 0 0) (.slice sa sn sc) from H3.out.2.2.2.2).chg ca hne).c3
          have H4 : Hid _ := And.intro ra ca
          clear ca ra
          refine hK _ _ ?_
          clear hK K
          refine wpAny_ready (rs := [4, 8]) (by kernel_rfl) (by simp) ?_
          refine AllReady.cons rfl (fun K hK => ?_) (AllReady.cons rfl (fun K hK => ?_) AllReady.nil)
          · go_simp
            refine hK _ _ ?_
            clear hK K
            refine wpAny_ready (rs := [8]) (by kernel_rfl) (by simp) ?_
            refine AllReady.cons rfl (fun K hK => ?_) AllReady.nil
            go_simp
            go_at_call 18
            refine (H3.out.2.2.2.1 wa H4.out.2 H4.out.1).mono ?_
            rintro e wb ⟨rfl, cb⟩
            have H5 : Hid _ := And.intro (H3.out.2.2.1.trans ((H4.out.2.trans cb).mono fun q hq => Or.inl hq) : Chg (SG g fb) w wb) True.intro
            clear cb
            go_simp
            exact ⟨rfl, H5.out.1, Or.inl ⟨H3.out.2.1, rfl⟩⟩
          · go_simp
            go_at_call 18
            refine (H3.out.2.2.2.1 wa H4.out.2 H4.out.1).mono ?_
            rintro e wb ⟨rfl, cb⟩
            have H5 : Hid _ := And.intro (H3.out.2.2.1.trans ((H4.out.2.trans cb).mono fun q hq => Or.inl hq) : Chg (SG g fb) w wb) True.intro
            clear cb
            go_simp
            exact ⟨rfl, H5.out.1, Or.inl ⟨H3.out.2.1, rfl⟩⟩
      case pos =>
      have hb2 := varN_bd ys (varN ys p) hv2
      obtain ⟨f', ef⟩ : ∃ f', f = f' + 1 := ⟨f - 1, by have := I.fu; omega⟩
      have hal : prs ys ys.length 0 = (prs ys f' (varN ys (varN ys p))).map (fun M => (L ++ [⟨varV ys p, varV ys (varN ys p)⟩]) ++ M) := by
        rw [I.al, ef, prs_yes ys f' p (by omega) ⟨hv1, hv2⟩, map_more]
      have V2 : ∀ u, Chg (· = g) wr.drew.drew u → rdB u g (.slice ao n cap) ((varN ys p : Nat) : Int) → _ := fun u hc hrd => HH.out.2.1 (varN ys p) u (HH.out.2.2.2.2.1 _ (C2.trans (hc.mono fun q hq => Or.inl hq))) hrd (HH.out.2.2.2.2.2.1 _ (C2.trans (hc.mono fun q hq => Or.inl hq))) hv2
      have hlf : L.length + f ≤ n := I.le
      have hfu : n ≤ p + f := I.fu
      generalize varV ys (varN ys p) = A2 at *
      generalize varV ys p = A1 at *
      generalize varN ys (varN ys p) = N2 at *
      generalize varN ys p = N1 at *
      have hn2 : p < N2 ∧ N2 ≤ n := by omega
      have FW : ∀ u : World, Chg (· = g) wr.drew.drew u → fB u fb 4 0 (.slice none 0 0) (.slice sa sn sc) := fun u hc => (show fB wr.drew.drew fb 4 0 (.slice none 0 0) (.slice sa sn sc) from I.fr).chg hc hne
      have OW : ∀ u : World, Chg (· = g) wr.drew.drew u → GOwns 40 2 u (w1.heap.size + 1) (.slice sa sn sc) (SSetting.L L) := fun u hc => (show GOwns 40 2 wr.drew.drew (w1.heap.size + 1) (.slice sa sn sc) (SSetting.L L) from I.ow).chg hc (fun k hk e => by omega)
      have SW : ∀ u : World, Chg (· = g) wr.drew.drew u → u.heap[w1.heap.size]? = some (.cells #[.bool false, .int .i64 0, .int .i64 16] 63 (0, 0)) := fun u hc => (hc.block w1.heap.size (Array.getElem?_eq_some_iff.1 I.sh).1 (fun e => by omega)).trans I.sh
      have hsz : w1.heap.size + 1 ≤ wr.heap.size := (Array.getElem?_eq_some_iff.1 I.sh).1
      have H3 : Hid _ := And.intro V1 (And.intro V2 (And.intro C2 (And.intro FW (And.intro OW (And.intro SW (And.intro hal (And.intro hsz (And.intro hlf (And.intro hfu (And.intro ef hpz))))))))))
      clear I C2 T2 P2 hv1 hv2 V1 V2 hpz RS hb1 hb2 hln FW OW SW hal hsz hlf hfu ef
      go_wp2_with fail
      go_region_law (first
        | (go_simp; go_at_call 18; have _t := tok1; refine H3.out.1.mono ?_; rintro e wa ⟨rfl, ra, ca⟩; have f3a : wa.cell? ⟨fb, 3, none⟩ = some (.slice sa sn sc) := (H3.out.2.2.2.1 wa ca).c3; have H4 : Hid _ := And.intro ra ca; clear ca ra tok1)
        | (go_simp; go_at_call 18; have _t := tok2; refine (H3.out.2.1 wa H4.out.2 H4.out.1).mono ?_; rintro e wb ⟨rfl, rb, cb⟩
           have CB : Chg (· = g) wr.drew.drew wb := H4.out.2.trans cb
           have f3b : wb.cell? ⟨fb, 3, none⟩ = some (.slice sa sn sc) := (H3.out.2.2.2.1 wb CB).c3
           have ba : Below wb.heap.size wb (wb.alloc (.cells #[.int .i64 A1, .int .i64 A2] 40)) := (Below.refl _ _).alloc (Nat.le_refl _) _
           have f3c : (wb.alloc (.cells #[.int .i64 A1, .int .i64 A2] 40)).cell? ⟨fb, 3, none⟩ = some (.slice sa sn sc) := (ba.cell (p := ⟨fb, 3, none⟩) (H3.out.2.2.2.1 wb CB).lt).trans f3b
           have H5 : Hid _ := And.intro rb (And.intro CB ba)
           clear cb rb CB ba tok2)
        | (refine step_append_flat rfl _ _ 23 40 Tryd.underlying23 _ 2 16 infoSetting rfl (by decide) (by decide) rfl (w1.heap.size + 1) (.slice sa sn sc) (SSetting.L L) (SSetting.flat _) rfl ((H3.out.2.2.2.2.1 wb H5.out.2.1).below H5.out.2.2) _ (SSetting.L [⟨A1, A2⟩]) (SSetting.flat _) rfl (lit_flat wb [.int .i64 A1, .int .i64 A2] 40) (by have := H3.out.2.2.2.2.2.2.2.2.1; have := HN.out.1; simp; omega) (by have h1 := H5.out.2.1.size; have h2 := H3.out.2.2.2.2.2.2.2.1; have h3 : wr.drew.drew.heap.size = wr.heap.size := rfl; simp; omega) ?_
           intro v5 w5 o5 g5
           have hne5 : ∀ j, (Value.slice sa sn sc).ownBlock = some j → w1.heap.size + 1 ≤ j := (H3.out.2.2.2.2.1 wb H5.out.2.1).own
           have hlf5 := (H3.out.2.2.2.1 wb H5.out.2.1).lt
           have hlg5 := H5.out.1.lt
           have hls5 := (Array.getElem?_eq_some_iff.1 (H3.out.2.2.2.2.2.1 wb H5.out.2.1)).1
           have gb : ∀ k, k < wb.heap.size → k < w1.heap.size + 1 → w5.heap[k]? = wb.heap[k]? := fun k h1 h2 => (g5.block k (by simp; omega) (fun e => by have := hne5 k e.symm; omega)).trans (Below.heap_alloc _ _ _ h1)
           have F5 : fB w5 fb 4 0 (.slice none 0 0) (.slice sa sn sc) := (gb fb hlf5 (by omega)).trans (H3.out.2.2.2.1 wb H5.out.2.1)
           have R5 : rdB w5 g (.slice ao n cap) (N2 : Int) := (gb g hlg5 (by omega)).trans H5.out.1
           have S5 := (gb w1.heap.size hls5 (by omega)).trans (H3.out.2.2.2.2.2.1 wb H5.out.2.1)
           have CW : Chg (SG g fb) w wb := H3.out.2.2.1.trans ((H5.out.2.1).mono fun q hq => Or.inl hq)
           have C5 : Chg (SG g fb) w w5 := ⟨g5.os.trans CW.os, g5.tape.trans CW.tape, g5.output.trans CW.output, Nat.le_trans CW.size (by have := g5.size; simp at this; omega), fun k hk hs => (gb k (Nat.lt_of_lt_of_le hk CW.size) (by omega)).trans (CW.block k hk hs)⟩
           obtain ⟨va5, vc5, e5⟩ := o5.row.form
           obtain ⟨n5, en5⟩ : ∃ n5, n5 = (SSetting.L L ++ SSetting.L [⟨A1, A2⟩]).length := ⟨_, rfl⟩
           rw [← en5] at e5
           clear en5
           subst e5
           have f35 := F5.c3
           have fr35 := F5.fr 3
           have H6 : Hid _ := And.intro F5 (And.intro R5 (And.intro S5 (And.intro C5 o5)))
           clear o5 g5 hne5 gb F5 R5 S5 C5 CW hlf5 hlg5 hls5))
      all_goals
        go_wp2
        go_roundg (n - N2)
        case measure => omega
        case rel =>
          refine ⟨N2, f', L ++ [⟨A1, A2⟩], _, rfl, ⟨H6.out.2.1.other hne, H6.out.1.set3 _, (bk_other (by omega) 3 _).trans H6.out.2.2.1, ?_, H6.out.2.2.2.1.set fb 3 _ (Or.inr rfl), hn2.2, by have := H3.out.2.2.2.2.2.2.2.2.2.1; have := H3.out.2.2.2.2.2.2.2.2.2.2.1; omega, by have := H3.out.2.2.2.2.2.2.2.2.1; have := H3.out.2.2.2.2.2.2.2.2.2.2.1; simp; omega, H3.out.2.2.2.2.2.2.1⟩⟩
          have o6 := H6.out.2.2.2.2
          rw [← List.map_append] at o6
          exact gown_setH o6 (by omega)
    · have hpe : p = n := by have := I.pn; omega
      have hres : prs ys ys.length 0 = some L := by rw [I.al, prs_end ys f p (by have := HH.out.2.2.2.2.2.2.2.2; omega)]; simp
      have R1 : rdB wr.drew g (.slice ao n cap) (p : Int) := I.rd
      have RS2 := restC g ao n cap (p : Int) wr.drew R1 ⟨by omega, by omega⟩ hsn
      have C2 : Chg (SG g fb) w wr.drew.drew := I.ch.drew.drew
      have T2 := HH.out.2.2.2.1 p wr.drew.drew I.rd (HH.out.2.2.2.2.2.1 _ C2) (by omega)
      have hd0 : ys.drop p = [] := List.drop_of_length_le (by have := HH.out.2.2.2.2.2.2.2.2; omega)
      rw [hd0] at T2
      rw [show (n : Int) - (p : Int) = 0 by omega] at T2 RS RS2
      obtain ⟨sa, sc, es⟩ := I.ow.row.form
      have HI : Hid _ := And.intro I (And.intro C2 hres)
      clear I H1 C2 hres R1 hd0
      go_wp2_with fail
      go_at_call 35
      refine RS.mono ?_
      rintro e w2 ⟨rfl, hw2⟩
      subst hw2
      go_wp2_with fail
      go_at_call 35
      refine RS2.mono ?_
      rintro e w3 ⟨rfl, hw3⟩
      subst hw3
      go_wp2_with fail
      go_at_call 20
      refine T2.mono ?_
      rintro e w4 ⟨v, rfl, o4, c4⟩
      obtain ⟨va, vc, ev⟩ := (row_of_owns o4).form
      have ev2 : v = .slice va 0 vc := ev
      clear ev
      subst ev2
      have C4 : Chg (SG g fb) w w4 := HI.out.2.1.trans (c4.mono fun q hq => Or.inl hq)
      have F4 : fB w4 fb 4 0 (.slice none 0 0) s := (show fB wr.drew.drew fb 4 0 (.slice none 0 0) s from HI.out.1.fr).chg c4 hne
      have O4 : GOwns 40 2 w4 (w1.heap.size + 1) s (SSetting.L L) := (show GOwns 40 2 wr.drew.drew (w1.heap.size + 1) s (SSetting.L L) from HI.out.1.ow).chg c4 (fun k hk e => by omega)
      have hap : ∀ j, (Value.slice va 0 vc).ownBlock = some j → s.ownBlock ≠ some j := fun j hj e => by
        have h1 := (o4.lt j hj).1
        obtain ⟨zs, ho, _⟩ := HI.out.1.ow
        have h2 := (ho.lt j e).2
        have h3 : wr.drew.drew.heap.size = wr.heap.size := rfl
        omega
      have hf2 := F4.c2
      have fr2 := F4.fr 2
      have H4 : Hid _ := And.intro C4 (And.intro F4 (And.intro O4 (And.intro hap (owns_mono o4 (show w.heap.size ≤ _ from HI.out.2.1.size)))))
      clear C4 F4 O4 hap o4 c4 RS RS2 T2
      go_wp2
      go_end0
      refine ⟨H4.out.1.set fb 2 _ (Or.inr rfl), Or.inr ⟨L, HI.out.2.2, rfl, _, s, H4.out.2.1.set2 _, ?_, (gown_setH H4.out.2.2.1 (by omega)).mono (by omega), H4.out.2.2.2.1⟩⟩
      exact own_setH H4.out.2.2.2.2 hfs
end Go.Proofs.YtohooehbjbhhhaaDoor
