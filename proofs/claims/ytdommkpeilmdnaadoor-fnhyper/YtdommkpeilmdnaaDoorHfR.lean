import Derived.Test.YtdommkpeilmdnaaDoorRhB
import Derived.Test.YtdommkpeilmdnaaDoorHyE
namespace Go.Proofs.YtdommkpeilmdnaaDoor
open Go.RowKit
set_option linter.unusedVariables false

theorem Pay.len {w : World} {ao : Option Addr} {n cap : Nat} {ys : List Int} (h : Pay w ao n cap ys) : ys.length = n := by
  rcases h with ⟨_, rfl, _, rfl⟩ | ⟨b, off, _, hl⟩
  · rfl
  · exact hl.len
/-- Its block is none of these. -/
def Off (ao : Option Addr) (S : Nat → Prop) : Prop := ∀ b off, ao = some ⟨b, off, none⟩ → ¬ S b
theorem Pay.chg {S : Nat → Prop} {w w' : World} {ao : Option Addr} {n cap : Nat} {ys : List Int} (h : Pay w ao n cap ys) (hc : Chg S w w') (hs : Off ao S) : Pay w' ao n cap ys := by
  rcases h with h | ⟨b, off, e, hl⟩
  · exact Or.inl h
  · exact Or.inr ⟨b, off, e, hl.chg hc (hs b off e)⟩
theorem takeP (g : Nat) (ao : Option Addr) (n cap p : Nat) (ys : List Int) (w : World) (h : rdB w g (.slice ao n cap) p) (hl : Pay w ao n cap ys) (hg : Off ao (· = g)) (hn : n ≤ 65536) (hp : p ≤ n) :
    Calls Tryd.prog 26 #[.pointer (some ⟨g, 0, none⟩), .int .i64 ((n : Int) - p)] w fun e w' => ∃ v, e = .returned v ∧ w'.ownsRow w.heap.size 5 1 v (ys.drop p).length ((ys.drop p).map (Value.int .u8)) ∧ Chg (· = g) w w' := by
  rcases hl with ⟨rfl, rfl, rfl, rfl⟩ | ⟨b, off, rfl, hl⟩
  · obtain rfl : p = 0 := by omega
    refine (take_nil g w h).mono ?_
    rintro e w' ⟨v, rfl, o, _, c⟩
    exact ⟨v, rfl, o, c⟩
  · have t := take_ok g b off n cap p (n - p) ys w h hl (fun e => hg b off rfl e) hn (by omega)
    have e1 : ((n - p : Nat) : Int) = (n : Int) - p := by omega
    have hL := hl.len
    have e2 : (ys.drop p).take (n - p) = ys.drop p := List.take_of_length_le (by rw [List.length_drop]; omega)
    have e3 : (ys.drop p).length = n - p := by rw [List.length_drop]; omega
    rw [e1] at t
    rw [e2] at t
    rw [e3]
    refine t.mono ?_
    rintro e w' ⟨v, rfl, o, _, c⟩
    exact ⟨v, rfl, o, c⟩
theorem varP (g : Nat) (ao : Option Addr) (n cap p : Nat) (ys : List Int) (w : World) (ht : Tab w) (h : rdB w g (.slice ao n cap) p) (hl : Pay w ao n cap ys) (hB : Bytes ys) (hn : n ≤ 65536) (hv : varOK ys p) :
    Calls Tryd.prog 24 #[.pointer (some ⟨g, 0, none⟩)] w fun e w' => e = .returned (.int .i64 (varV ys p)) ∧ rdB w' g (.slice ao n cap) ((varN ys p : Nat) : Int) ∧ Chg (· = g) w w' := by
  rcases hl with ⟨rfl, rfl, rfl, rfl⟩ | ⟨b, off, rfl, hl⟩
  · exact absurd hv.1 (by simp)
  · exact variable_ok g b off n cap p ys w ht h hl hB hn hv
theorem varPn (g : Nat) (ao : Option Addr) (n cap p : Nat) (ys : List Int) (w : World) (ht : Tab w) (h : rdB w g (.slice ao n cap) p) (hl : Pay w ao n cap ys) (hB : Bytes ys) (hn : n ≤ 65536) (hp : p ≤ n) (hv : ¬ varOK ys p) :
    Calls Tryd.prog 24 #[.pointer (some ⟨g, 0, none⟩)] w fun e w' => e = .panicked [leftP 2] ∧ Chg (· = g) w w' := by
  rcases hl with ⟨rfl, rfl, rfl, rfl⟩ | ⟨b, off, rfl, hl⟩
  · refine variable_bad g none 0 0 _ 2 [] w ht h (Or.inl ⟨rfl, _, _, rfl⟩) hB (by omega) rfl ?_ (by decide)
    obtain rfl : p = 0 := by omega
    rfl
  · exact variable_no g b off n cap p ys w ht h hl hB hn hp hv
/-- What readPayload leaves. -/
def PayR (w w' : World) (fb : Nat) (k : Int) (f : HF) : Prop := ∃ d s : Value, fB w' fb k f.a d s ∧ w'.ownsRow w.heap.size 5 1 d f.d.length (f.d.map (Value.int .u8)) ∧ GOwns 62 2 w' w.heap.size s (SSetting.L f.s) ∧ (∀ j, d.ownBlock = some j → s.ownBlock ≠ some j)
theorem sh_c (k : Int) (h4 : k ≠ 4) (h7 : ¬ (k = 7 ∨ k = 15)) : shN k = false ∧ shS k = 0 := by
  unfold shN shS
  exact ⟨decide_eq_false h7, if_neg h4⟩
theorem sh_n (k : Int) (h7 : k = 7 ∨ k = 15) : shN k = true ∧ shS k = 0 := by
  unfold shN shS
  exact ⟨decide_eq_true h7, if_neg (by omega)⟩
set_option maxRecDepth 20000 in
set_option maxHeartbeats 2000000 in
theorem pay_c (fb g : Nat) (k : Int) (ao : Option Addr) (n cap : Nat) (ys : List Int) (w : World) (ht : Tab w) (hf : fB w fb k 0 (.slice none 0 0) (.slice none 0 0)) (hr : rdB w g (.slice ao n cap) 0) (hl : Pay w ao n cap ys) (hg : Off ao (SG g fb)) (hne : fb ≠ g) (hn : n ≤ 65536) (h4 : k ≠ 4) (h7 : ¬ (k = 7 ∨ k = 15)) :
    Calls Tryd.prog 27 #[.pointer (some ⟨fb, 0, none⟩), .pointer (some ⟨g, 0, none⟩)] w fun e w' => e = .returned (.tuple #[]) ∧ Chg (SG g fb) w w' ∧ PayR w w' fb k ⟨k, 0, ys, []⟩ := by
  have c0 := hf.c0
  obtain ⟨sn, ss⟩ := sh_c k h4 h7
  have SH := shapeI k w
  rw [sn, ss] at SH
  generalize shD k = D at SH
  have TK : ∀ u : World, rdB u g (.slice ao n cap) 0 → Pay u ao n cap ys → _ := fun u h1 h2 => takeP g ao n cap 0 ys u h1 h2 (fun b off e hb => hg b off e (Or.inl hb)) hn (by omega)
  have HH : Hid _ := And.intro SH (And.intro TK (And.intro hf (And.intro hr (And.intro hl (And.intro hg hne)))))
  have hsn : n ≤ 9223372036854775807 := by omega
  clear SH TK sn ss hf hr hl hg hne h4 h7 hn
  go_enter Tryd.func27, Tryd.ntmps27
  go_wp2_with fail
  go_at_call 19
  refine HH.out.1.mono ?_
  rintro e w1 ⟨rfl, b1⟩
  have cb : Chg (SG g fb) w (w1.alloc (.cells #[.bool false, .int .i64 D, .int .i64 0] 45)) := Chg.of_below (b1.alloc b1.size _)
  have bb : Below w.heap.size w (w1.alloc (.cells #[.bool false, .int .i64 D, .int .i64 0] 45)) := b1.alloc b1.size _
  have H1 : Hid _ := And.intro cb bb
  clear cb bb b1
  go_wp2_with fail
  refine wp_loop_rounds 1 ?_
  rw [rounds_succ]
  have RS := restC g ao n cap 0 _ (HH.out.2.2.2.1.below H1.out.2) ⟨by omega, by omega⟩ hsn
  go_wp2_with fail
  go_at_call 44
  refine RS.mono ?_
  rintro e w2 ⟨rfl, hw2⟩
  subst hw2
  have T2 := HH.out.2.1 (w1.alloc (.cells #[.bool false, .int .i64 D, .int .i64 0] 45)).drew (HH.out.2.2.2.1.below (below_drewN H1.out.2 1)) (HH.out.2.2.2.2.1.chg H1.out.1.drew HH.out.2.2.2.2.2.1)
  go_wp2_with fail
  go_at_call 26
  refine T2.mono ?_
  rintro e w3 ⟨v, rfl, o3, c3⟩
  obtain ⟨va, vc, ev⟩ := (row_of_owns o3).form
  have C3 : Chg (SG g fb) w w3 := H1.out.1.drew.trans (c3.mono fun k hk => Or.inl hk)
  have F3 : fB w3 fb k 0 (.slice none 0 0) (.slice none 0 0) := (HH.out.2.2.1.chg (S := fun _ => False) (Chg.of_below (below_drewN H1.out.2 1)) (fun h => h)).chg c3 HH.out.2.2.2.2.2.2
  have hf2 := F3.c2
  have fr2 := F3.fr 2
  subst ev
  have H3 : Hid _ := And.intro C3 (And.intro F3 (owns_mono o3 (show w.heap.size ≤ _ from (below_drewN H1.out.2 1).size)))
  have hfs := HH.out.2.2.1.lt
  have HZ : Hid _ := And.intro (fun j (hj : (Value.slice va (ys.drop 0).length vc).ownBlock = some j) => (o3.lt j hj).1) (show w.heap.size ≤ (w1.alloc (.cells #[.bool false, .int .i64 D, .int .i64 0] 45)).drew.heap.size from (below_drewN H1.out.2 1).size)
  clear C3 F3 o3 c3 RS T2
  go_wp2
  go_end0
  refine ⟨rfl, H3.out.1.set fb 2 _ (Or.inr rfl), _, _, H3.out.2.1.set2 _, ?_, GOwns.nil _ _ _ _, fun j _ e => by cases e⟩
  exact (Only.setCell (w := w3) ⟨fb, 2, none⟩ _).owns (by have := H3.out.2.2; rw [List.drop_zero] at this; exact this) (fun q hq e => by have h1 := (H3.out.2.2.lt q hq).1; have e' : q = fb := Option.some.inj e; omega)
end Go.Proofs.YtdommkpeilmdnaaDoor

namespace Go.Proofs.YtdommkpeilmdnaaDoor
open Go.RowKit
set_option linter.unusedVariables false

set_option maxRecDepth 20000 in
set_option maxHeartbeats 2000000 in
theorem pay_n (fb g : Nat) (k : Int) (ao : Option Addr) (n cap : Nat) (ys : List Int) (w : World) (ht : Tab w) (hf : fB w fb k 0 (.slice none 0 0) (.slice none 0 0)) (hr : rdB w g (.slice ao n cap) 0) (hl : Pay w ao n cap ys) (hB : Bytes ys) (hg : Off ao (SG g fb)) (hne : fb ≠ g) (hn : n ≤ 65536) (h7 : k = 7 ∨ k = 15) (hv : varOK ys 0) (hTg : 1 ≠ g) (hTf : 1 ≠ fb) :
    Calls Tryd.prog 27 #[.pointer (some ⟨fb, 0, none⟩), .pointer (some ⟨g, 0, none⟩)] w fun e w' => e = .returned (.tuple #[]) ∧ Chg (SG g fb) w w' ∧ PayR w w' fb k ⟨k, varV ys 0, ys.drop (varN ys 0), []⟩ := by
  have c0 := hf.c0
  obtain ⟨sn, ss⟩ := sh_n k h7
  have SH := shapeI k w
  rw [sn, ss] at SH
  generalize shD k = D at SH
  have hvN := varN_bd ys 0 hv
  have hlen := hl.len
  have hvb := varV_bd ys 0
  have VR : ∀ u : World, Tab u → rdB u g (.slice ao n cap) 0 → Pay u ao n cap ys → _ := fun u h0 h1 h2 => varP g ao n cap 0 ys u h0 h1 h2 hB hn hv
  have TK : ∀ u : World, rdB u g (.slice ao n cap) ((varN ys 0 : Nat) : Int) → Pay u ao n cap ys → _ := fun u h1 h2 => takeP g ao n cap (varN ys 0) ys u h1 h2 (fun b off e hb => hg b off e (Or.inl hb)) hn (by omega)
  have hpn : varN ys 0 ≤ n := by omega
  generalize varV ys 0 = V at *
  generalize varN ys 0 = P at *
  have HH : Hid _ := And.intro SH (And.intro TK (And.intro hf (And.intro hr (And.intro hl (And.intro hg (And.intro hne (And.intro VR ht)))))))
  have hsn : n ≤ 9223372036854775807 := by omega
  have hfs := hf.lt
  clear SH TK VR sn ss hf hr hl hg h7 hn hB hv hvN hlen hvb ht
  go_enter Tryd.func27, Tryd.ntmps27
  go_wp2_with fail
  go_at_call 19
  refine HH.out.1.mono ?_
  rintro e w1 ⟨rfl, b1⟩
  obtain ⟨w1', ew1⟩ : ∃ u, u = w1.alloc (.cells #[.bool true, .int .i64 D, .int .i64 0] 45) := ⟨_, rfl⟩
  have bb : Below w.heap.size w w1' := by rw [ew1]; exact b1.alloc b1.size _
  have ks : w1'.heap[w1.heap.size]? = some (.cells #[.bool true, .int .i64 D, .int .i64 0] 45 (0, 0)) := by rw [ew1]; exact heap_alloc_new w1 _
  have V1 := HH.out.2.2.2.2.2.2.2.1 w1' (HH.out.2.2.2.2.2.2.2.2.below bb HH.out.2.2.2.2.2.2.2.2.lt) (HH.out.2.2.2.1.below bb) (HH.out.2.2.2.2.1.chg (Chg.of_below bb) HH.out.2.2.2.2.2.1)
  have H1 : Hid _ := And.intro bb (And.intro ks b1.size)
  rw [ew1] at V1 H1
  clear bb ks b1 ew1
  go_wp2_with fail
  go_at_call 24
  refine V1.mono ?_
  rintro e w2 ⟨rfl, r2, c2⟩
  have hz : w.heap.size ≤ w1.heap.size := H1.out.2.2
  have F2 : fB w2 fb k 0 (.slice none 0 0) (.slice none 0 0) := (HH.out.2.2.1.chg (S := fun _ => False) (Chg.of_below H1.out.1) (fun h => h)).chg c2 HH.out.2.2.2.2.2.2.1
  have hgl := HH.out.2.2.2.1.lt
  have k2 : w2.heap[w1.heap.size]? = some (.cells #[.bool true, .int .i64 D, .int .i64 0] 45 (0, 0)) := (c2.block w1.heap.size (Array.getElem?_eq_some_iff.1 H1.out.2.1).1 (fun e => by omega)).trans H1.out.2.1
  have f21 := F2.c1
  have fr21 := F2.fr 1
  have k3 : (w2.setCell ⟨fb, 1, none⟩ (.int .i64 V)).heap[w1.heap.size]? = some (.cells #[.bool true, .int .i64 D, .int .i64 0] 45 (0, 0)) := (bk_other (by omega) 1 _).trans k2
  have s2 := bk_cell k3 2
  simp at s2
  have R3 : rdB (w2.setCell ⟨fb, 1, none⟩ (.int .i64 V)) g (.slice ao n cap) (P : Int) := r2.other HH.out.2.2.2.2.2.2.1
  have C3 : Chg (SG g fb) w (w2.setCell ⟨fb, 1, none⟩ (.int .i64 V)) := ((Chg.of_below H1.out.1).trans (c2.mono fun q hq => Or.inl hq)).set fb 1 _ (Or.inr rfl)
  have F3 := F2.set1 V
  have H2 : Hid _ := And.intro R3 (And.intro C3 F3)
  clear r2 c2 F2 k2 k3 R3 C3 F3 V1 H1
  go_wp2_with fail
  refine wp_loop_rounds 1 ?_
  rw [rounds_succ]
  have RS := restC g ao n cap (P : Int) _ H2.out.1 ⟨by omega, by omega⟩ hsn
  go_wp2_with fail
  go_at_call 44
  refine RS.mono ?_
  rintro e w3 ⟨rfl, hw3⟩
  subst hw3
  have T2 := HH.out.2.1 (w2.setCell ⟨fb, 1, none⟩ (.int .i64 V)).drew H2.out.1 (HH.out.2.2.2.2.1.chg H2.out.2.1.drew HH.out.2.2.2.2.2.1)
  go_wp2_with fail
  go_at_call 26
  refine T2.mono ?_
  rintro e w4 ⟨v, rfl, o4, c4⟩
  obtain ⟨va, vc, ev⟩ := (row_of_owns o4).form
  obtain ⟨m, em⟩ : ∃ m, m = (ys.drop P).length := ⟨_, rfl⟩
  rw [← em] at ev
  clear em
  have C4 : Chg (SG g fb) w w4 := H2.out.2.1.drew.trans (c4.mono fun q hq => Or.inl hq)
  have F4 : fB w4 fb k V (.slice none 0 0) (.slice none 0 0) := (show fB (w2.setCell ⟨fb, 1, none⟩ (.int .i64 V)).drew fb k V (.slice none 0 0) (.slice none 0 0) from H2.out.2.2).chg c4 HH.out.2.2.2.2.2.2.1
  have hf2 := F4.c2
  have fr2 := F4.fr 2
  subst ev
  have H4 : Hid _ := And.intro C4 (And.intro F4 (owns_mono o4 (show w.heap.size ≤ _ from H2.out.2.1.size)))
  clear C4 F4 o4 c4 RS T2
  go_wp2
  go_end0
  refine ⟨rfl, H4.out.1.set fb 2 _ (Or.inr rfl), _, _, H4.out.2.1.set2 _, ?_, GOwns.nil _ _ _ _, fun j _ e => by cases e⟩
  exact (Only.setCell (w := w4) ⟨fb, 2, none⟩ _).owns H4.out.2.2 (fun q hq e => by have h1 := (H4.out.2.2.lt q hq).1; have e' : q = fb := Option.some.inj e; omega)
set_option maxRecDepth 20000 in
set_option maxHeartbeats 2000000 in
theorem pay_nn (fb g : Nat) (k : Int) (ao : Option Addr) (n cap : Nat) (ys : List Int) (w : World) (ht : Tab w) (hf : fB w fb k 0 (.slice none 0 0) (.slice none 0 0)) (hr : rdB w g (.slice ao n cap) 0) (hl : Pay w ao n cap ys) (hB : Bytes ys) (hg : Off ao (SG g fb)) (hn : n ≤ 65536) (h7 : k = 7 ∨ k = 15) (hv : ¬ varOK ys 0) :
    Calls Tryd.prog 27 #[.pointer (some ⟨fb, 0, none⟩), .pointer (some ⟨g, 0, none⟩)] w fun e w' => e = .panicked [leftP 2] ∧ Chg (SG g fb) w w' := by
  have c0 := hf.c0
  obtain ⟨sn, ss⟩ := sh_n k h7
  have SH := shapeI k w
  rw [sn, ss] at SH
  generalize shD k = D at SH
  have VR : ∀ u : World, Tab u → rdB u g (.slice ao n cap) 0 → Pay u ao n cap ys → _ := fun u h0 h1 h2 => varPn g ao n cap 0 ys u h0 h1 h2 hB hn (by omega) hv
  have HH : Hid _ := And.intro SH (And.intro VR (And.intro hr (And.intro hl (And.intro hg ht))))
  clear SH VR sn ss hf hr hl hg h7 hn hB hv ht
  go_enter Tryd.func27, Tryd.ntmps27
  go_wp2_with fail
  go_at_call 19
  refine HH.out.1.mono ?_
  rintro e w1 ⟨rfl, b1⟩
  have bb : Below w.heap.size w (w1.alloc (.cells #[.bool true, .int .i64 D, .int .i64 0] 45)) := b1.alloc b1.size _
  have V1 := HH.out.2.1 _ (HH.out.2.2.2.2.2.below bb HH.out.2.2.2.2.2.lt) (HH.out.2.2.1.below bb) (HH.out.2.2.2.1.chg (Chg.of_below bb) HH.out.2.2.2.2.1)
  have H1 : Hid _ := And.intro bb True.intro
  clear bb b1
  go_wp2_with fail
  go_at_call 24
  refine V1.mono ?_
  rintro e w2 ⟨rfl, c2⟩
  have H2 : Hid _ := And.intro ((Chg.of_below H1.out.1).trans (c2.mono fun q hq => Or.inl hq) : Chg (SG g fb) w w2) True.intro
  clear c2
  go_wp2_with fail
  exact ⟨rfl, rfl, H2.out.1⟩
end Go.Proofs.YtdommkpeilmdnaaDoor

namespace Go.Proofs.YtdommkpeilmdnaaDoor
open Go.RowKit
set_option linter.unusedVariables false

/-- Amid the settings. -/
structure PsI (fb g Q n cap : Nat) (ao : Option Addr) (ys : List Int) (w wr : World) (p f : Nat) (L : List SSetting) (s : Value) : Prop where
  rd : rdB wr g (.slice ao n cap) (p : Int)
  fr : fB wr fb 4 0 (.slice none 0 0) s
  sh : wr.heap[Q]? = some (.cells #[.bool false, .int .i64 0, .int .i64 16] 45 (0, 0))
  ow : GOwns 62 2 wr (Q + 1) s (SSetting.L L)
  ch : Chg (SG g fb) w wr
  pn : p ≤ n
  fu : n ≤ p + f
  le : L.length + f ≤ n
  al : prs ys ys.length 0 = (prs ys f p).map (fun M => L ++ M)
theorem map_more (ys : List Int) (f p : Nat) (L : List SSetting) (x : SSetting) : ((prs ys f p).map (fun M => x :: M)).map (fun M => L ++ M) = (prs ys f p).map (fun M => (L ++ [x]) ++ M) := by
  cases prs ys f p with
  | none => rfl
  | some M => simp
theorem GOwns.own {T : TypeId} {K base : Nat} {w : World} {v : Value} {L : List (List Value)} (h : GOwns T K w base v L) : ∀ j, v.ownBlock = some j → base ≤ j := by
  obtain ⟨zs, ho, _⟩ := h
  exact fun j hj => (ho.lt j hj).1
theorem grown_chg {S : Nat → Prop} {w w' : World} {r : Option Nat} (h : w.grownBy w' r) (hr : ∀ k, r = some k → S k) : Chg S w w' :=
  ⟨h.os, h.tape, h.output, h.size, fun k hk hs => h.block k hk (fun e => hs (hr k e.symm))⟩
set_option maxRecDepth 20000 in
set_option maxHeartbeats 4000000 in
theorem pay_s (fb g : Nat) (ao : Option Addr) (n cap : Nat) (ys : List Int) (w : World) (ht : Tab w) (hf : fB w fb 4 0 (.slice none 0 0) (.slice none 0 0)) (hr : rdB w g (.slice ao n cap) 0) (hl : Pay w ao n cap ys) (hB : Bytes ys) (hg : Off ao (SG g fb)) (hne : fb ≠ g) (hn : n ≤ 65536) (hTg : ¬ SG g fb 1) :
    Calls Tryd.prog 27 #[.pointer (some ⟨fb, 0, none⟩), .pointer (some ⟨g, 0, none⟩)] w fun e w' => Chg (SG g fb) w w' ∧ ((prs ys ys.length 0 = none ∧ e = .panicked [leftP 2]) ∨ ∃ L, prs ys ys.length 0 = some L ∧ e = .returned (.tuple #[]) ∧ PayR w w' fb 4 ⟨4, 0, [], L⟩) := by
  have c0 := hf.c0
  have SH := shapeI 4 w
  rw [show shN 4 = false by decide, show shS 4 = 16 by decide, show shD 4 = 0 by decide] at SH
  have hlen := hl.len
  have VR : ∀ (p : Nat) (u : World), Tab u → rdB u g (.slice ao n cap) (p : Int) → Pay u ao n cap ys → varOK ys p → _ := fun p u h0 h1 h2 hv => varP g ao n cap p ys u h0 h1 h2 hB hn hv
  have VN : ∀ (p : Nat) (u : World), Tab u → rdB u g (.slice ao n cap) (p : Int) → Pay u ao n cap ys → p ≤ n → ¬ varOK ys p → _ := fun p u h0 h1 h2 hp hv => varPn g ao n cap p ys u h0 h1 h2 hB hn hp hv
  have TK : ∀ (p : Nat) (u : World), rdB u g (.slice ao n cap) (p : Int) → Pay u ao n cap ys → p ≤ n → _ := fun p u h1 h2 hp => takeP g ao n cap p ys u h1 h2 (fun b off e hb => hg b off e (Or.inl hb)) hn hp
  have hsn : n ≤ 9223372036854775807 := by omega
  have hfs := hf.lt
  have hgs := hr.lt
  have TB : ∀ u, Chg (SG g fb) w u → Tab u := fun u hc => ht.chg hc hTg
  have PY : ∀ u, Chg (SG g fb) w u → Pay u ao n cap ys := fun u hc => hl.chg hc hg
  have HH : Hid _ := And.intro SH (And.intro VR (And.intro VN (And.intro TK (And.intro TB (And.intro PY (And.intro hf (And.intro hr hlen)))))))
  have HN : Hid _ := And.intro hn True.intro
  clear SH VR VN TK TB PY hf hr hl hg hB hn ht hlen
  go_enter Tryd.func27, Tryd.ntmps27
  go_wp2_with fail
  go_at_call 19
  refine HH.out.1.mono ?_
  rintro e w1 ⟨rfl, b1⟩
  have hz : w.heap.size ≤ w1.heap.size := b1.size
  have bb : Below w.heap.size w (w1.alloc (.cells #[.bool false, .int .i64 0, .int .i64 16] 45)) := b1.alloc b1.size _
  have I0 : PsI fb g w1.heap.size n cap ao ys w (w1.alloc (.cells #[.bool false, .int .i64 0, .int .i64 16] 45)) 0 n [] (.slice none 0 0) :=
    ⟨HH.out.2.2.2.2.2.2.2.1.below bb, HH.out.2.2.2.2.2.2.1.chg (S := fun _ => False) (Chg.of_below bb) (fun h => h), heap_alloc_new w1 _, GOwns.nil _ _ _ _, Chg.of_below bb, by omega, by omega, by simp, by rw [HH.out.2.2.2.2.2.2.2.2]; cases prs ys n 0 <;> simp⟩
  have H1 : Hid _ := And.intro I0 True.intro
  clear bb b1 I0 c0
  go_wp2_with fail
  go_loopg [] n (fun q wr => ∃ p f L s, q = n - p ∧ PsI fb g w1.heap.size n cap ao ys w wr p f L s)
  case atStart => exact ⟨0, n, [], _, by omega, H1.out.1⟩
  case round =>
    obtain ⟨p, f, L, s, rfl, I⟩ := hrel
    have RS := restC g ao n cap (p : Int) wr I.rd ⟨by omega, by have := I.pn; omega⟩ hsn
    have s2 := bk_cell I.sh 2
    simp at s2
    by_cases hpn : p < n
    · have hgt : (0 : Int) < (n : Int) - p := by omega
      have HI : Hid _ := And.intro I True.intro
      clear I H1
      go_wp2_with fail
      go_at_call 44
      refine RS.mono ?_
      rintro e w2 ⟨rfl, hw2⟩
      subst hw2
      have I := HI.out.1
      have C2 : Chg (SG g fb) w wr.drew.drew := I.ch.drew.drew
      have hpz := I.ow.own
      obtain ⟨sa, sc, es⟩ := I.ow.row.form
      obtain ⟨sn, esn⟩ : ∃ sn, sn = (SSetting.L L).length := ⟨_, rfl⟩
      rw [← esn] at es
      subst es
      clear esn
      have f3 : wr.drew.drew.cell? ⟨fb, 3, none⟩ = some (.slice sa sn sc) := I.fr.c3
      have T2 := HH.out.2.2.2.2.1 _ C2
      have P2 := HH.out.2.2.2.2.2.1 _ C2
      have tok1 : Hid True := trivial
      have tok2 : Hid True := trivial
      by_cases hv1 : varOK ys p
      case neg =>
        have V1 := HH.out.2.2.1 p wr.drew.drew T2 I.rd P2 (by omega) hv1
        have hnone : prs ys ys.length 0 = none := by rw [I.al, prs_no ys f p (by have := HH.out.2.2.2.2.2.2.2.2; omega) (fun h => hv1 h.1)]; rfl
        have H3 : Hid _ := And.intro V1 (And.intro hnone C2)
        clear I C2 T2 P2 hv1 V1 hnone hpz RS
        go_wp2_with fail
        refine wp_region_any (by kernel_rfl) ?_
        change wpAny _ _ _ _ _ _ _ (World.drew _)
        refine wpAny_take (i := 0) (v := .pointer (some ⟨fb, 0, none⟩)) rfl (by kernel_rfl) (by kernel_rfl) (by kernel_rfl) (fun _ _ _ h => h) (Or.inl ⟨by rfl, fun u => by go_simp⟩) ?_
        refine wpAny_take (i := 1) (v := .pointer (some ⟨fb, 0, none⟩)) rfl (by kernel_rfl) (by kernel_rfl) (by kernel_rfl) (fun _ _ _ h => h) (Or.inl ⟨by rfl, fun u => by go_simp⟩) ?_
        refine wpAny_take (i := 2) (v := .pointer (some ⟨fb, 0, none⟩)) rfl (by kernel_rfl) (by kernel_rfl) (by kernel_rfl) (fun _ _ _ h => h) (Or.inl ⟨by rfl, fun u => by go_simp⟩) ?_
        refine wpAny_take (i := 3) (v := .pointer (some ⟨fb, 3, none⟩)) rfl (by kernel_rfl) (by kernel_rfl) (by kernel_rfl) (fun _ _ _ h => h) (Or.inl ⟨by rfl, fun u => by go_simp⟩) ?_
        refine wpAny_take (i := 5) (v := .pointer (some ⟨g, 0, none⟩)) rfl (by kernel_rfl) (by kernel_rfl) (by kernel_rfl) (fun _ _ _ h => h) (Or.inl ⟨by rfl, fun u => by go_simp⟩) ?_
        refine wpAny_take (i := 7) (v := .pointer (some ⟨g, 0, none⟩)) rfl (by kernel_rfl) (by kernel_rfl) (by kernel_rfl) (fun _ _ _ h => h) (Or.inl ⟨by rfl, fun u => by go_simp⟩) ?_
        refine wpAny_ready (rs := [4, 6]) (by kernel_rfl) (by simp) ?_
        refine AllReady.cons rfl (fun K hK => ?_) (AllReady.cons rfl (fun K hK => ?_) AllReady.nil)
        · go_simp
          refine hK _ _ ?_
          clear hK K
          refine wpAny_ready (rs := [6]) (by kernel_rfl) (by simp) ?_
          refine AllReady.cons rfl (fun K hK => ?_) AllReady.nil
          go_simp
          go_at_call 24
          refine H3.out.1.mono ?_
          rintro e wa ⟨rfl, ca⟩
          have H4 : Hid _ := And.intro (H3.out.2.2.trans (ca.mono fun q hq => Or.inl hq) : Chg (SG g fb) w wa) True.intro
          clear ca
          go_simp
          exact ⟨rfl, H4.out.1, Or.inl ⟨H3.out.2.1, rfl⟩⟩
        · go_simp
          go_at_call 24
          refine H3.out.1.mono ?_
          rintro e wa ⟨rfl, ca⟩
          have H4 : Hid _ := And.intro (H3.out.2.2.trans (ca.mono fun q hq => Or.inl hq) : Chg (SG g fb) w wa) True.intro
          clear ca
          go_simp
          exact ⟨rfl, H4.out.1, Or.inl ⟨H3.out.2.1, rfl⟩⟩
      case pos =>
      have hb1 := varN_bd ys p hv1
      have hln := HH.out.2.2.2.2.2.2.2.2
      have V1 := HH.out.2.1 p wr.drew.drew T2 I.rd P2 hv1
      by_cases hv2 : varOK ys (varN ys p)
      case neg =>
        have hnone : prs ys ys.length 0 = none := by rw [I.al, prs_no ys f p (by omega) (fun h => hv2 h.2)]; rfl
        have V2 : ∀ u, Chg (· = g) wr.drew.drew u → rdB u g (.slice ao n cap) ((varN ys p : Nat) : Int) → _ := fun u hc hrd => HH.out.2.2.1 (varN ys p) u (HH.out.2.2.2.2.1 _ (C2.trans (hc.mono fun q hq => Or.inl hq))) hrd (HH.out.2.2.2.2.2.1 _ (C2.trans (hc.mono fun q hq => Or.inl hq))) (by omega) hv2
        generalize varV ys p = A1 at *
        generalize varN ys p = N1 at *
        have H3 : Hid _ := And.intro V1 (And.intro hnone (And.intro C2 (And.intro V2 I.fr)))
        clear I C2 T2 P2 hv1 hv2 V1 V2 hnone hpz RS hb1 hln
        go_wp2_with fail
        refine wp_region_any (by kernel_rfl) ?_
        change wpAny _ _ _ _ _ _ _ (World.drew _)
        refine wpAny_take (i := 0) (v := .pointer (some ⟨fb, 0, none⟩)) rfl (by kernel_rfl) (by kernel_rfl) (by kernel_rfl) (fun _ _ _ h => h) (Or.inl ⟨by rfl, fun u => by go_simp⟩) ?_
        refine wpAny_take (i := 1) (v := .pointer (some ⟨fb, 0, none⟩)) rfl (by kernel_rfl) (by kernel_rfl) (by kernel_rfl) (fun _ _ _ h => h) (Or.inl ⟨by rfl, fun u => by go_simp⟩) ?_
        refine wpAny_take (i := 2) (v := .pointer (some ⟨fb, 0, none⟩)) rfl (by kernel_rfl) (by kernel_rfl) (by kernel_rfl) (fun _ _ _ h => h) (Or.inl ⟨by rfl, fun u => by go_simp⟩) ?_
        refine wpAny_take (i := 3) (v := .pointer (some ⟨fb, 3, none⟩)) rfl (by kernel_rfl) (by kernel_rfl) (by kernel_rfl) (fun _ _ _ h => h) (Or.inl ⟨by rfl, fun u => by go_simp⟩) ?_
        refine wpAny_take (i := 5) (v := .pointer (some ⟨g, 0, none⟩)) rfl (by kernel_rfl) (by kernel_rfl) (by kernel_rfl) (fun _ _ _ h => h) (Or.inl ⟨by rfl, fun u => by go_simp⟩) ?_
        refine wpAny_take (i := 7) (v := .pointer (some ⟨g, 0, none⟩)) rfl (by kernel_rfl) (by kernel_rfl) (by kernel_rfl) (fun _ _ _ h => h) (Or.inl ⟨by rfl, fun u => by go_simp⟩) ?_
        refine wpAny_ready (rs := [4, 6]) (by kernel_rfl) (by simp) ?_
        refine AllReady.cons rfl (fun K hK => ?_) (AllReady.cons rfl (fun K hK => ?_) AllReady.nil)
        · go_simp
          refine hK _ _ ?_
          clear hK K
          refine wpAny_ready (rs := [6]) (by kernel_rfl) (by simp) ?_
          refine AllReady.cons rfl (fun K hK => ?_) AllReady.nil
          go_simp
          go_at_call 24
          refine H3.out.1.mono ?_
          rintro e wa ⟨rfl, ra, ca⟩
          have f3a : wa.cell? ⟨fb, 3, none⟩ = some (.slice sa sn sc) := ((show fB wr.drew.drew fb 4 0 (.slice none 0 0) (.slice sa sn sc) from H3.out.2.2.2.2).chg ca hne).c3
          have H4 : Hid _ := And.intro ra ca
          clear ca ra
          refine hK _ _ ?_
          clear hK K
          refine wpAny_ready (rs := [8]) (by kernel_rfl) (by simp) ?_
          refine AllReady.cons rfl (fun K hK => ?_) AllReady.nil
          go_simp
          go_at_call 24
          refine (H3.out.2.2.2.1 wa H4.out.2 H4.out.1).mono ?_
          rintro e wb ⟨rfl, cb⟩
          have H5 : Hid _ := And.intro (H3.out.2.2.1.trans ((H4.out.2.trans cb).mono fun q hq => Or.inl hq) : Chg (SG g fb) w wb) True.intro
          clear cb
          go_simp
          exact ⟨rfl, H5.out.1, Or.inl ⟨H3.out.2.1, rfl⟩⟩
        · go_simp
          go_at_call 24
          refine H3.out.1.mono ?_
          rintro e wa ⟨rfl, ra, ca⟩
          have f3a : wa.cell? ⟨fb, 3, none⟩ = some (.slice sa sn sc) := ((show fB wr.drew.drew fb 4 0 (.slice none 0 0) (.slice sa sn sc) from H3.out.2.2.2.2).chg ca hne).c3
          have H4 : Hid _ := And.intro ra ca
          clear ca ra
          refine hK _ _ ?_
          clear hK K
          refine wpAny_ready (rs := [4, 8]) (by kernel_rfl) (by simp) ?_
          refine AllReady.cons rfl (fun K hK => ?_) (AllReady.cons rfl (fun K hK => ?_) AllReady.nil)
          · go_simp
            refine hK _ _ ?_
            clear hK K
            refine wpAny_ready (rs := [8]) (by kernel_rfl) (by simp) ?_
            refine AllReady.cons rfl (fun K hK => ?_) AllReady.nil
            go_simp
            go_at_call 24
            refine (H3.out.2.2.2.1 wa H4.out.2 H4.out.1).mono ?_
            rintro e wb ⟨rfl, cb⟩
            have H5 : Hid _ := And.intro (H3.out.2.2.1.trans ((H4.out.2.trans cb).mono fun q hq => Or.inl hq) : Chg (SG g fb) w wb) True.intro
            clear cb
            go_simp
            exact ⟨rfl, H5.out.1, Or.inl ⟨H3.out.2.1, rfl⟩⟩
          · go_simp
            go_at_call 24
            refine (H3.out.2.2.2.1 wa H4.out.2 H4.out.1).mono ?_
            rintro e wb ⟨rfl, cb⟩
            have H5 : Hid _ := And.intro (H3.out.2.2.1.trans ((H4.out.2.trans cb).mono fun q hq => Or.inl hq) : Chg (SG g fb) w wb) True.intro
            clear cb
            go_simp
            exact ⟨rfl, H5.out.1, Or.inl ⟨H3.out.2.1, rfl⟩⟩
      case pos =>
      have hb2 := varN_bd ys (varN ys p) hv2
      obtain ⟨f', ef⟩ : ∃ f', f = f' + 1 := ⟨f - 1, by have := I.fu; omega⟩
      have hal : prs ys ys.length 0 = (prs ys f' (varN ys (varN ys p))).map (fun M => (L ++ [⟨varV ys p, varV ys (varN ys p)⟩]) ++ M) := by
        rw [I.al, ef, prs_yes ys f' p (by omega) ⟨hv1, hv2⟩, map_more]
      have V2 : ∀ u, Chg (· = g) wr.drew.drew u → rdB u g (.slice ao n cap) ((varN ys p : Nat) : Int) → _ := fun u hc hrd => HH.out.2.1 (varN ys p) u (HH.out.2.2.2.2.1 _ (C2.trans (hc.mono fun q hq => Or.inl hq))) hrd (HH.out.2.2.2.2.2.1 _ (C2.trans (hc.mono fun q hq => Or.inl hq))) hv2
      have hlf : L.length + f ≤ n := I.le
      have hfu : n ≤ p + f := I.fu
      generalize varV ys (varN ys p) = A2 at *
      generalize varV ys p = A1 at *
      generalize varN ys (varN ys p) = N2 at *
      generalize varN ys p = N1 at *
      have hn2 : p < N2 ∧ N2 ≤ n := by omega
      have FW : ∀ u : World, Chg (· = g) wr.drew.drew u → fB u fb 4 0 (.slice none 0 0) (.slice sa sn sc) := fun u hc => (show fB wr.drew.drew fb 4 0 (.slice none 0 0) (.slice sa sn sc) from I.fr).chg hc hne
      have OW : ∀ u : World, Chg (· = g) wr.drew.drew u → GOwns 62 2 u (w1.heap.size + 1) (.slice sa sn sc) (SSetting.L L) := fun u hc => (show GOwns 62 2 wr.drew.drew (w1.heap.size + 1) (.slice sa sn sc) (SSetting.L L) from I.ow).chg hc (fun k hk e => by omega)
      have SW : ∀ u : World, Chg (· = g) wr.drew.drew u → u.heap[w1.heap.size]? = some (.cells #[.bool false, .int .i64 0, .int .i64 16] 45 (0, 0)) := fun u hc => (hc.block w1.heap.size (Array.getElem?_eq_some_iff.1 I.sh).1 (fun e => by omega)).trans I.sh
      have hsz : w1.heap.size + 1 ≤ wr.heap.size := (Array.getElem?_eq_some_iff.1 I.sh).1
      have H3 : Hid _ := And.intro V1 (And.intro V2 (And.intro C2 (And.intro FW (And.intro OW (And.intro SW (And.intro hal (And.intro hsz (And.intro hlf (And.intro hfu (And.intro ef hpz))))))))))
      clear I C2 T2 P2 hv1 hv2 V1 V2 hpz RS hb1 hb2 hln FW OW SW hal hsz hlf hfu ef
      go_wp2_with fail
      go_region_law (first
        | (go_simp; go_at_call 24; have _t := tok1; refine H3.out.1.mono ?_; rintro e wa ⟨rfl, ra, ca⟩; have f3a : wa.cell? ⟨fb, 3, none⟩ = some (.slice sa sn sc) := (H3.out.2.2.2.1 wa ca).c3; have H4 : Hid _ := And.intro ra ca; clear ca ra tok1)
        | (go_simp; go_at_call 24; have _t := tok2; refine (H3.out.2.1 wa H4.out.2 H4.out.1).mono ?_; rintro e wb ⟨rfl, rb, cb⟩
           have CB : Chg (· = g) wr.drew.drew wb := H4.out.2.trans cb
           have f3b : wb.cell? ⟨fb, 3, none⟩ = some (.slice sa sn sc) := (H3.out.2.2.2.1 wb CB).c3
           have ba : Below wb.heap.size wb (wb.alloc (.cells #[.int .i64 A1, .int .i64 A2] 62)) := (Below.refl _ _).alloc (Nat.le_refl _) _
           have f3c : (wb.alloc (.cells #[.int .i64 A1, .int .i64 A2] 62)).cell? ⟨fb, 3, none⟩ = some (.slice sa sn sc) := (ba.cell (p := ⟨fb, 3, none⟩) (H3.out.2.2.2.1 wb CB).lt).trans f3b
           have H5 : Hid _ := And.intro rb (And.intro CB ba)
           clear cb rb CB ba tok2)
        | (refine step_append_flat rfl _ _ 24 62 Tryd.underlying24 _ 2 16 infoSetting rfl (by decide) (by decide) rfl (w1.heap.size + 1) (.slice sa sn sc) (SSetting.L L) (SSetting.flat _) rfl ((H3.out.2.2.2.2.1 wb H5.out.2.1).below H5.out.2.2) _ (SSetting.L [⟨A1, A2⟩]) (SSetting.flat _) rfl (lit_flat wb [.int .i64 A1, .int .i64 A2] 62) (by have := H3.out.2.2.2.2.2.2.2.2.1; have := HN.out.1; simp; omega) (by have h1 := H5.out.2.1.size; have h2 := H3.out.2.2.2.2.2.2.2.1; have h3 : wr.drew.drew.heap.size = wr.heap.size := rfl; simp; omega) ?_
           intro v5 w5 o5 g5
           have hne5 : ∀ j, (Value.slice sa sn sc).ownBlock = some j → w1.heap.size + 1 ≤ j := (H3.out.2.2.2.2.1 wb H5.out.2.1).own
           have hlf5 := (H3.out.2.2.2.1 wb H5.out.2.1).lt
           have hlg5 := H5.out.1.lt
           have hls5 := (Array.getElem?_eq_some_iff.1 (H3.out.2.2.2.2.2.1 wb H5.out.2.1)).1
           have gb : ∀ k, k < wb.heap.size → k < w1.heap.size + 1 → w5.heap[k]? = wb.heap[k]? := fun k h1 h2 => (g5.block k (by simp; omega) (fun e => by have := hne5 k e.symm; omega)).trans (Below.heap_alloc _ _ _ h1)
           have F5 : fB w5 fb 4 0 (.slice none 0 0) (.slice sa sn sc) := (gb fb hlf5 (by omega)).trans (H3.out.2.2.2.1 wb H5.out.2.1)
           have R5 : rdB w5 g (.slice ao n cap) (N2 : Int) := (gb g hlg5 (by omega)).trans H5.out.1
           have S5 := (gb w1.heap.size hls5 (by omega)).trans (H3.out.2.2.2.2.2.1 wb H5.out.2.1)
           have CW : Chg (SG g fb) w wb := H3.out.2.2.1.trans ((H5.out.2.1).mono fun q hq => Or.inl hq)
           have C5 : Chg (SG g fb) w w5 := ⟨g5.os.trans CW.os, g5.tape.trans CW.tape, g5.output.trans CW.output, Nat.le_trans CW.size (by have := g5.size; simp at this; omega), fun k hk hs => (gb k (Nat.lt_of_lt_of_le hk CW.size) (by omega)).trans (CW.block k hk hs)⟩
           obtain ⟨va5, vc5, e5⟩ := o5.row.form
           obtain ⟨n5, en5⟩ : ∃ n5, n5 = (SSetting.L L ++ SSetting.L [⟨A1, A2⟩]).length := ⟨_, rfl⟩
           rw [← en5] at e5
           clear en5
           subst e5
           have f35 := F5.c3
           have fr35 := F5.fr 3
           have H6 : Hid _ := And.intro F5 (And.intro R5 (And.intro S5 (And.intro C5 o5)))
           clear o5 g5 hne5 gb F5 R5 S5 C5 CW hlf5 hlg5 hls5))
      all_goals
        go_wp2
        go_roundg (n - N2)
        case measure => omega
        case rel =>
          refine ⟨N2, f', L ++ [⟨A1, A2⟩], _, rfl, ⟨H6.out.2.1.other hne, H6.out.1.set3 _, (bk_other (by omega) 3 _).trans H6.out.2.2.1, ?_, H6.out.2.2.2.1.set fb 3 _ (Or.inr rfl), hn2.2, by have := H3.out.2.2.2.2.2.2.2.2.2.1; have := H3.out.2.2.2.2.2.2.2.2.2.2.1; omega, by have := H3.out.2.2.2.2.2.2.2.2.1; have := H3.out.2.2.2.2.2.2.2.2.2.2.1; simp; omega, H3.out.2.2.2.2.2.2.1⟩⟩
          have o6 := H6.out.2.2.2.2
          rw [← List.map_append] at o6
          exact gown_setH o6 (by omega)
    · have hpe : p = n := by have := I.pn; omega
      have hres : prs ys ys.length 0 = some L := by rw [I.al, prs_end ys f p (by have := HH.out.2.2.2.2.2.2.2.2; omega)]; simp
      have R1 : rdB wr.drew g (.slice ao n cap) (p : Int) := I.rd
      have RS2 := restC g ao n cap (p : Int) wr.drew R1 ⟨by omega, by omega⟩ hsn
      have C2 : Chg (SG g fb) w wr.drew.drew := I.ch.drew.drew
      have T2 := HH.out.2.2.2.1 p wr.drew.drew I.rd (HH.out.2.2.2.2.2.1 _ C2) (by omega)
      have hd0 : ys.drop p = [] := List.drop_of_length_le (by have := HH.out.2.2.2.2.2.2.2.2; omega)
      rw [hd0] at T2
      rw [show (n : Int) - (p : Int) = 0 by omega] at T2 RS RS2
      obtain ⟨sa, sc, es⟩ := I.ow.row.form
      have HI : Hid _ := And.intro I (And.intro C2 hres)
      clear I H1 C2 hres R1 hd0
      go_wp2_with fail
      go_at_call 44
      refine RS.mono ?_
      rintro e w2 ⟨rfl, hw2⟩
      subst hw2
      go_wp2_with fail
      go_at_call 44
      refine RS2.mono ?_
      rintro e w3 ⟨rfl, hw3⟩
      subst hw3
      go_wp2_with fail
      go_at_call 26
      refine T2.mono ?_
      rintro e w4 ⟨v, rfl, o4, c4⟩
      obtain ⟨va, vc, ev⟩ := (row_of_owns o4).form
      have ev2 : v = .slice va 0 vc := ev
      clear ev
      subst ev2
      have C4 : Chg (SG g fb) w w4 := HI.out.2.1.trans (c4.mono fun q hq => Or.inl hq)
      have F4 : fB w4 fb 4 0 (.slice none 0 0) s := (show fB wr.drew.drew fb 4 0 (.slice none 0 0) s from HI.out.1.fr).chg c4 hne
      have O4 : GOwns 62 2 w4 (w1.heap.size + 1) s (SSetting.L L) := (show GOwns 62 2 wr.drew.drew (w1.heap.size + 1) s (SSetting.L L) from HI.out.1.ow).chg c4 (fun k hk e => by omega)
      have hap : ∀ j, (Value.slice va 0 vc).ownBlock = some j → s.ownBlock ≠ some j := fun j hj e => by
        have h1 := (o4.lt j hj).1
        obtain ⟨zs, ho, _⟩ := HI.out.1.ow
        have h2 := (ho.lt j e).2
        have h3 : wr.drew.drew.heap.size = wr.heap.size := rfl
        omega
      have hf2 := F4.c2
      have fr2 := F4.fr 2
      have H4 : Hid _ := And.intro C4 (And.intro F4 (And.intro O4 (And.intro hap (owns_mono o4 (show w.heap.size ≤ _ from HI.out.2.1.size)))))
      clear C4 F4 O4 hap o4 c4 RS RS2 T2
      go_wp2
      go_end0
      refine ⟨H4.out.1.set fb 2 _ (Or.inr rfl), Or.inr ⟨L, HI.out.2.2, rfl, _, s, H4.out.2.1.set2 _, ?_, (gown_setH H4.out.2.2.1 (by omega)).mono (by omega), H4.out.2.2.2.1⟩⟩
      exact own_setH H4.out.2.2.2.2 hfs
end Go.Proofs.YtdommkpeilmdnaaDoor

namespace Go.Proofs.YtdommkpeilmdnaaDoor
open Go.RowKit
set_option linter.unusedVariables false

theorem payI (fb g : Nat) (k : Int) (ao : Option Addr) (n cap : Nat) (ys : List Int) (w : World) (ht : Tab w) (hf : fB w fb k 0 (.slice none 0 0) (.slice none 0 0)) (hr : rdB w g (.slice ao n cap) 0) (hl : Pay w ao n cap ys) (hB : Bytes ys) (hg : Off ao (SG g fb)) (hne : fb ≠ g) (hn : n ≤ 65536) (hTg : ¬ SG g fb 1) :
    Calls Tryd.prog 27 #[.pointer (some ⟨fb, 0, none⟩), .pointer (some ⟨g, 0, none⟩)] w fun e w' => Chg (SG g fb) w w' ∧ ((rhF k ys = none ∧ e = .panicked [leftP 2]) ∨ ∃ f, rhF k ys = some f ∧ e = .returned (.tuple #[]) ∧ PayR w w' fb k f) := by
  by_cases h4 : k = 4
  · subst h4
    refine (pay_s fb g ao n cap ys w ht hf hr hl hB hg hne hn hTg).mono ?_
    rintro e w' ⟨hc, ⟨h1, h2⟩ | ⟨L, h1, h2, h3⟩⟩
    · exact ⟨hc, Or.inl ⟨by unfold rhF; rw [if_pos rfl, h1]; rfl, h2⟩⟩
    · exact ⟨hc, Or.inr ⟨_, by unfold rhF; rw [if_pos rfl, h1]; rfl, h2, h3⟩⟩
  · by_cases h7 : k = 7 ∨ k = 15
    · by_cases hv : varOK ys 0
      · refine (pay_n fb g k ao n cap ys w ht hf hr hl hB hg hne hn h7 hv (fun e => hTg (Or.inl e)) (fun e => hTg (Or.inr e))).mono ?_
        rintro e w' ⟨h2, hc, h3⟩
        exact ⟨hc, Or.inr ⟨_, by unfold rhF; rw [if_neg h4, if_pos h7, if_pos hv], h2, h3⟩⟩
      · refine (pay_nn fb g k ao n cap ys w ht hf hr hl hB hg hn h7 hv).mono ?_
        rintro e w' ⟨h2, hc⟩
        exact ⟨hc, Or.inl ⟨by unfold rhF; rw [if_neg h4, if_pos h7, if_neg hv], h2⟩⟩
    · refine (pay_c fb g k ao n cap ys w ht hf hr hl hg hne hn h4 h7).mono ?_
      rintro e w' ⟨h2, hc, h3⟩
      exact ⟨hc, Or.inr ⟨_, by unfold rhF; rw [if_neg h4, if_neg h7], h2, h3⟩⟩
/-- The answer, or the code. -/
def rhE (xs : List Int) (at' : Int) : Except Int (HF × Nat) :=
  if 65536 < xs.length then .error 4 else if at' < 0 ∨ (xs.length : Int) < at' then .error 1 else rhT xs at'.toNat
theorem rhR_E (xs : List Int) (at' : Int) : rhR xs at' = match rhE xs at' with | .error c => (zHF, 0, c) | .ok (f, q) => (f, (q : Int), 0) := by
  unfold rhR rhE
  split
  · rfl
  split
  · rfl
  rfl
/-- Where no first number is: what GetVar says is what ReadHyper says. -/
theorem rh_bad (xs : List Int) (at' : Int) (h : ¬ (xs.length ≤ 65536 ∧ 0 ≤ at' ∧ at' ≤ xs.length ∧ varOK xs at'.toNat)) : ∃ c, c ≠ 0 ∧ gv xs at' = (0, 0, c) ∧ rhE xs at' = .error c := by
  by_cases h1 : 65536 < xs.length
  · exact ⟨4, by decide, by unfold gv; rw [if_pos h1], by unfold rhE; rw [if_pos h1]⟩
  by_cases h2 : at' < 0 ∨ (xs.length : Int) < at'
  · exact ⟨1, by decide, by unfold gv; rw [if_neg h1, if_pos (by omega)], by unfold rhE; rw [if_neg h1, if_pos h2]⟩
  · obtain ⟨p, rfl⟩ := Int.eq_ofNat_of_zero_le (show 0 ≤ at' by omega)
    have hv : ¬ varOK xs p := fun e => h ⟨by omega, by omega, by omega, by simpa using e⟩
    refine ⟨2, by decide, gv_not xs p (by omega) (by omega) hv, ?_⟩
    unfold rhE rhT
    rw [if_neg h1, if_neg h2, Int.toNat_natCast, if_pos hv]
theorem row_chg {S : Nat → Prop} {w w' : World} {ao : Option Addr} {n cap : Nat} {xs : List Int} (h : Row w .u8 (.slice ao n cap) xs) (hc : Chg S w w') (ho : Off ao S) : Row w' .u8 (.slice ao n cap) xs := by
  rcases h with h | ⟨b, off, cp, e, hlt, hcap, hcell⟩
  · exact Or.inl h
  · cases e
    exact Or.inr ⟨b, off, _, rfl, Nat.lt_of_lt_of_le hlt hc.size, hcap, fun j hj => by rw [← hcell j hj]; simp only [World.cell?]; rw [hc.block b hlt (ho b off rfl)]⟩
/-- The three blocks of a frame's reading: the reader's, the frame's, the place's. -/
abbrev S3 (g fb nb : Nat) : Nat → Prop := fun k => k = g ∨ k = fb ∨ k = nb
set_option maxRecDepth 20000 in
set_option maxHeartbeats 2000000 in
theorem clo_bad (g ab fb nb : Nat) (at' c : Int) (ao : Option Addr) (n cap : Nat) (xs : List Int) (w : World) (ht : Tab w) (ha : w.cell? ⟨ab, 0, none⟩ = some (.int .i64 at')) (hf : fB w fb 0 0 (.slice none 0 0) (.slice none 0 0)) (hr : rdB w g (.slice ao n cap) 0) (hrow : ∀ u, Chg (S3 g fb nb) w u → Row u .u8 (.slice ao n cap) xs) (hlen : xs.length = n) (hB : Bytes xs) (hn : n ≤ 9223372036854775807) (hTg : ¬ S3 g fb nb 1) (hc : c ≠ 0) (hv : gv xs at' = (0, 0, c)) :
    Calls Tryd.prog 23 #[.pointer (some ⟨g, 0, none⟩), .pointer (some ⟨ab, 0, none⟩), .pointer (some ⟨fb, 0, none⟩), .pointer (some ⟨nb, 0, none⟩)] w fun e w' => e = .panicked [leftP c] ∧ Chg (S3 g fb nb) w w' := by
  have c1 := hr.c1
  have f1 := hr.fr 1
  have CS : Chg (S3 g fb nb) w (w.setCell ⟨g, 1, none⟩ (.int .i64 at')) := (Chg.refl _ w).set g 1 _ (Or.inl rfl)
  have V := variable_bad g ao n cap at' c xs (w.setCell ⟨g, 1, none⟩ (.int .i64 at')) (ht.chg CS hTg) (hr.set at') (hrow _ CS) hB hn hlen hv hc
  have HH : Hid _ := And.intro V CS
  clear V CS hf hr hrow hlen hB ht hv
  go_enter Tryd.func23, Tryd.ntmps23
  go_wp2_with fail
  go_at_call 24
  refine HH.out.1.mono ?_
  rintro e w2 ⟨rfl, c2⟩
  have H2 : Hid _ := And.intro (HH.out.2.trans (c2.mono fun q hq => Or.inl hq)) True.intro
  clear c2
  go_wp2_with fail
  exact ⟨rfl, rfl, H2.out.1⟩
end Go.Proofs.YtdommkpeilmdnaaDoor

namespace Go.Proofs.YtdommkpeilmdnaaDoor
open Go.RowKit
set_option linter.unusedVariables false

theorem fB.set0 {w : World} {g : Nat} {k a : Int} {d s : Value} (h : fB w g k a d s) (x : Int) : fB (w.setCell ⟨g, 0, none⟩ (.int .i64 x)) g x a d s := bk_set h 0 _
theorem pay_of_owns {w : World} {base k : Nat} {v : Value} {ys : List Int} (h : w.ownsRow base 5 1 v k (ys.map (Value.int .u8))) : ∃ va vc, v = .slice va k vc ∧ Pay w va k vc ys ∧ (∀ b off, va = some ⟨b, off, none⟩ → base ≤ b ∧ b < w.heap.size) := by
  have hl : ys.length = k := by have := h.1; simpa using this
  have h' := h
  rcases h.2 with ⟨rfl, e⟩ | ⟨g, cap, cur, rfl, hg, hh, hnc, hcm, _⟩
  · subst e
    have hy : ys = [] := List.eq_nil_of_length_eq_zero hl
    exact ⟨none, 0, rfl, Or.inl ⟨rfl, rfl, rfl, hy⟩, fun b off e => by cases e⟩
  · have hlt := (Array.getElem?_eq_some_iff.1 hh).1
    refine ⟨_, cap, rfl, Or.inr ⟨g, 0, rfl, ⟨hl, hlt, hnc, hcm, fun j hj => ?_⟩⟩, fun b off e => ?_⟩
    · have := h'.cellAt j (by simpa using hj)
      rw [Nat.zero_add, this]
      simp [List.getD, hl, hj]
    · cases e
      exact ⟨hg, hlt⟩
/-- What the closure leaves. -/
def CloR (B : Nat) (w' : World) (fb nb : Nat) (f : HF) (q : Nat) : Prop := (∃ d s : Value, fB w' fb f.k f.a d s ∧ w'.ownsRow B 5 1 d f.d.length (f.d.map (Value.int .u8)) ∧ GOwns 62 2 w' B s (SSetting.L f.s) ∧ (∀ j, d.ownBlock = some j → s.ownBlock ≠ some j)) ∧ w'.heap[nb]? = some (.cells #[.int .i64 (q : Int)] 3 (0, 0))
theorem chg_two {w W u : World} {fb : Nat} (b2 : Below w.heap.size w W) (hc : Chg (SG (w.heap.size + 1) fb) W u) : Chg (· = fb) w u :=
  ⟨hc.os.trans b2.os, hc.tape.trans b2.tape, hc.output.trans b2.output, Nat.le_trans b2.size hc.size, fun q hq hs => (hc.block q (Nat.lt_of_lt_of_le hq b2.size) (fun h => by
    rcases h with h | h
    · omega
    · exact hs h)).trans (b2.block q hq)⟩
theorem chg_new {S : Nat → Prop} {w u : World} {b i : Nat} {x : Value} (hc : Chg S w u) (hb : w.heap.size ≤ b) : Chg S w (u.setCell ⟨b, i, none⟩ x) :=
  ⟨hc.os, hc.tape, hc.output, by simp [World.setCell]; exact hc.size, fun q hq hs => (bk_other (by omega) i x).trans (hc.block q hq hs)⟩
/-- readBytes over the payload. -/
theorem rbP (fb : Nat) (k : Int) (va : Option Addr) (n vc : Nat) (ys : List Int) (w : World) (ht : Tab w) (hf : fB w fb k 0 (.slice none 0 0) (.slice none 0 0)) (hl : Pay w va n vc ys) (hB : Bytes ys) (hg : Off va (· = fb)) (hn : n ≤ 65536) (hTf : 1 ≠ fb) :
    Calls Tryd.prog 22 #[.slice va n vc, .func (.func 27) #[.pointer (some ⟨fb, 0, none⟩)] #[]] w fun e w' => Chg (· = fb) w w' ∧ ((rhF k ys = none ∧ e = .returned (faultV 2)) ∨ ∃ f, rhF k ys = some f ∧ e = .returned .nilIface ∧ PayR w w' fb k f) := by
  have b1 : Below w.heap.size w (w.alloc (.cells #[.nilIface] 50)) := (Below.refl _ _).alloc (Nat.le_refl _) _
  have b2 : Below w.heap.size w ((w.alloc (.cells #[.nilIface] 50)).alloc (.cells #[.slice va n vc, .int .i64 0] 54)) := b1.alloc b1.size _
  obtain ⟨k1, k2⟩ := bk_new2 w (.cells #[.nilIface] 50) (.cells #[.slice va n vc, .int .i64 0] 54)
  have hfl := hf.lt
  have htl := ht.lt
  have P := payI fb (w.heap.size + 1) k va n vc ys _ (ht.below b2 htl) (hf.chg (S := fun _ => False) (Chg.of_below b2) (fun h => h)) k2 (hl.chg (S := fun _ => False) (Chg.of_below b2) (fun _ _ _ h => h)) hB (fun b off e h => by
      rcases h with h | h
      · rcases hl with ⟨h1, _⟩ | ⟨b', off', e', hl'⟩
        · rw [h1] at e; cases e
        · rw [e'] at e; cases e; have := hl'.lt; omega
      · exact hg b off e h) (by omega) hn (fun h => by rcases h with h | h <;> omega)
  cases hF : rhF k ys with
  | none =>
    refine (rbP_bad va n vc (.pointer (some ⟨fb, 0, none⟩)) 2 w (fun w' => Chg (SG (w.heap.size + 1) fb) ((w.alloc (.cells #[.nilIface] 50)).alloc (.cells #[.slice va n vc, .int .i64 0] 54)) w') ?_ ?_).mono ?_
    · refine P.mono ?_
      rintro e w' ⟨hc, ⟨_, rfl⟩ | ⟨f, h1, _⟩⟩
      · exact ⟨rfl, hc⟩
      · rw [hF] at h1; cases h1
    · intro w' hc
      exact (hc.block w.heap.size (by simp; omega) (fun h => by rcases h with h | h <;> omega)).trans k1
    · rintro e w'' ⟨rfl, w', hc, rfl⟩
      exact ⟨(chg_new (chg_two b2 hc) (Nat.le_refl _)).trans (Chg.of_below ((Below.refl _ _).alloc (Nat.le_refl _) _)), Or.inl ⟨rfl, rfl⟩⟩
  | some f =>
    refine (rbP_ok va n vc (.pointer (some ⟨fb, 0, none⟩)) w (fun w' => Chg (SG (w.heap.size + 1) fb) ((w.alloc (.cells #[.nilIface] 50)).alloc (.cells #[.slice va n vc, .int .i64 0] 54)) w' ∧ PayR ((w.alloc (.cells #[.nilIface] 50)).alloc (.cells #[.slice va n vc, .int .i64 0] 54)) w' fb k f) ?_ ?_).mono ?_
    · refine P.mono ?_
      rintro e w' ⟨hc, ⟨h1, _⟩ | ⟨f', h1, rfl, h3⟩⟩
      · rw [hF] at h1; cases h1
      · rw [hF] at h1; cases h1; exact ⟨rfl, hc, h3⟩
    · intro w' hc
      exact (hc.1.block w.heap.size (by simp; omega) (fun h => by rcases h with h | h <;> omega)).trans k1
    · rintro e w'' ⟨rfl, w', ⟨hc, d, s, h1, h2, h3, h4⟩, rfl⟩
      have hs2 : w.heap.size + 2 ≤ ((w.alloc (.cells #[.nilIface] 50)).alloc (.cells #[.slice va n vc, .int .i64 0] 54)).heap.size := by simp
      refine ⟨chg_new (chg_two b2 hc) (Nat.le_refl _), Or.inr ⟨f, rfl, rfl, d, s, (bk_other (by omega) 0 _).trans h1, ?_, ?_, h4⟩⟩
      · exact owns_mono (own_setH h2 (by omega)) (by omega)
      · exact (gown_setH h3 (by omega)).mono (by omega)
end Go.Proofs.YtdommkpeilmdnaaDoor

namespace Go.Proofs.YtdommkpeilmdnaaDoor
open Go.RowKit
set_option linter.unusedVariables false

theorem rhT_2 (xs : List Int) (p : Nat) (h1 : varOK xs p) (h : ¬ varOK xs (varN xs p)) : rhT xs p = .error 2 := by
  unfold rhT; rw [if_neg (fun h => h h1), if_pos h]
theorem rhT_3 (xs : List Int) (p : Nat) (h1 : varOK xs p) (h2 : varOK xs (varN xs p)) (h : 16384 < varV xs (varN xs p)) : rhT xs p = .error 3 := by
  unfold rhT; rw [if_neg (fun h => h h1), if_neg (fun h => h h2), if_pos h]
theorem rhT_4 (xs : List Int) (p : Nat) (h1 : varOK xs p) (h2 : varOK xs (varN xs p)) (h3 : ¬ 16384 < varV xs (varN xs p)) (h : xs.length < varN xs (varN xs p) + (varV xs (varN xs p)).toNat) : rhT xs p = .error 2 := by
  unfold rhT; rw [if_neg (fun h => h h1), if_neg (fun h => h h2), if_neg h3, if_pos h]
theorem rhT_5 (xs : List Int) (p : Nat) (h1 : varOK xs p) (h2 : varOK xs (varN xs p)) (h3 : ¬ 16384 < varV xs (varN xs p)) (h4 : ¬ xs.length < varN xs (varN xs p) + (varV xs (varN xs p)).toNat) : rhT xs p = match rhF (varV xs p) (sub xs (varN xs (varN xs p)) (varV xs (varN xs p)).toNat) with
    | none => .error 3
    | some f => if hyP f.k f.a f.d.length f.s then .ok (f, varN xs (varN xs p) + (varV xs (varN xs p)).toNat) else .error 3 := by
  unfold rhT; rw [if_neg (fun h => h h1), if_neg (fun h => h h2), if_neg h3, if_neg h4]; rfl
set_option maxRecDepth 20000 in
set_option maxHeartbeats 4000000 in
theorem clo_ok (g ab fb nb b off n cap p : Nat) (xs : List Int) (w : World) (ht : Tab w) (ha : w.cell? ⟨ab, 0, none⟩ = some (.int .i64 (p : Int))) (hf : fB w fb 0 0 (.slice none 0 0) (.slice none 0 0)) (hr : rdB w g (.slice (some ⟨b, off, none⟩) n cap) 0) (hnb : w.heap[nb]? = some (.cells #[.int .i64 0] 3 (0, 0))) (hl : Lies w b off n cap xs) (hB : Bytes xs) (hn : n ≤ 65536) (hb : ¬ S3 g fb nb b) (hT : ¬ S3 g fb nb 1) (hgf : fb ≠ g) (hgn : nb ≠ g) (hfn : fb ≠ nb) (hv : varOK xs p) :
    Calls Tryd.prog 23 #[.pointer (some ⟨g, 0, none⟩), .pointer (some ⟨ab, 0, none⟩), .pointer (some ⟨fb, 0, none⟩), .pointer (some ⟨nb, 0, none⟩)] w fun e w' => Chg (S3 g fb nb) w w' ∧ ((∃ c, rhT xs p = .error c ∧ e = .panicked [leftP c]) ∨ ∃ f q, rhT xs p = .ok (f, q) ∧ e = .returned (.tuple #[]) ∧ CloR w.heap.size w' fb nb f q) := by
  have hmf : ∀ (fn : Fn) (first cap : Array Value) (w : World), (Instr.makeFunc fn first cap).run Tryd.prog w = .ok (.func fn first cap) w := fun _ _ _ _ => rfl
  have c1 := hr.c1
  have f1 := hr.fr 1
  have hgb : b ≠ g := fun e => hb (Or.inl e)
  have hlen := hl.len
  have TB : ∀ u, Chg (S3 g fb nb) w u → Tab u := fun u hc => ht.chg hc hT
  have LI : ∀ u, Chg (S3 g fb nb) w u → Lies u b off n cap xs := fun u hc => hl.chg hc hb
  have C1 : Chg (S3 g fb nb) w (w.setCell ⟨g, 1, none⟩ (.int .i64 (p : Int))) := (Chg.refl _ w).set g 1 _ (Or.inl rfl)
  have F1 : fB (w.setCell ⟨g, 1, none⟩ (.int .i64 (p : Int))) fb 0 0 (.slice none 0 0) (.slice none 0 0) := (bk_other hgf 1 _).trans hf
  have N1 : (w.setCell ⟨g, 1, none⟩ (.int .i64 (p : Int))).heap[nb]? = some (.cells #[.int .i64 0] 3 (0, 0)) := (bk_other hgn 1 _).trans hnb
  have V1 := variable_ok g b off n cap p xs _ (TB _ C1) (hr.set (p : Int)) (LI _ C1) hB hn hv
  have hb1 := varN_bd xs p hv
  have VK : ∀ (q : Nat) (u : World), Chg (S3 g fb nb) w u → rdB u g (.slice (some ⟨b, off, none⟩) n cap) (q : Int) → varOK xs q → _ := fun q u hc hrd hv => variable_ok g b off n cap q xs u (TB u hc) hrd (LI u hc) hB hn hv
  have VN : ∀ (q : Nat) (u : World), Chg (S3 g fb nb) w u → rdB u g (.slice (some ⟨b, off, none⟩) n cap) (q : Int) → q ≤ n → ¬ varOK xs q → _ := fun q u hc hrd hq hv => variable_no g b off n cap q xs u (TB u hc) hrd (LI u hc) hB hn hq hv
  have TK : ∀ (q k : Nat) (u : World), Chg (S3 g fb nb) w u → rdB u g (.slice (some ⟨b, off, none⟩) n cap) (q : Int) → q + k ≤ n → _ := fun q k u hc hrd hq => take_ok g b off n cap q k xs u hrd (LI u hc) hgb hn hq
  have TN : ∀ (q : Nat) (k : Int) (u : World), rdB u g (.slice (some ⟨b, off, none⟩) n cap) (q : Int) → q ≤ n → (n : Int) - q < k → _ := fun q k u hrd hq hk => take_no g (some ⟨b, off, none⟩) n cap q k u hrd ⟨by omega, by omega⟩ (by omega) hk
  have hfl := hf.lt
  have hnl := (Array.getElem?_eq_some_iff.1 hnb).1
  have hgl := hr.lt
  have HH : Hid _ := And.intro V1 (And.intro C1 (And.intro F1 (And.intro N1 (And.intro VK (And.intro VN (And.intro TK (And.intro TN (And.intro TB hB))))))))
  have HV : Hid _ := And.intro hv (And.intro hb1 hlen)
  clear V1 C1 F1 N1 VK VN TK TN TB LI hl hB ht hf hr hnb hb1 hlen
  go_enter Tryd.func23, Tryd.ntmps23
  go_wp2_with fail
  go_at_call 24
  refine HH.out.1.mono ?_
  rintro e w2 ⟨rfl, r2, c2⟩
  have C2 : Chg (S3 g fb nb) w w2 := HH.out.2.1.trans (c2.mono fun q hq => Or.inl hq)
  have F2 := HH.out.2.2.1.chg c2 hgf
  have N2 := (c2.block nb (Array.getElem?_eq_some_iff.1 HH.out.2.2.2.1).1 hgn).trans HH.out.2.2.2.1
  have k0 := F2.c0
  have kf := F2.fr 0
  obtain ⟨K, eK⟩ : ∃ K, K = varV xs p := ⟨_, rfl⟩
  rw [← eK]
  have C3 : Chg (S3 g fb nb) w (w2.setCell ⟨fb, 0, none⟩ (.int .i64 K)) := C2.set fb 0 _ (Or.inr (Or.inl rfl))
  have F3 := F2.set0 K
  have N3 : (w2.setCell ⟨fb, 0, none⟩ (.int .i64 K)).heap[nb]? = some (.cells #[.int .i64 0] 3 (0, 0)) := (bk_other (fun e => hfn e.symm) 0 _).trans N2
  have R3 : rdB (w2.setCell ⟨fb, 0, none⟩ (.int .i64 K)) g (.slice (some ⟨b, off, none⟩) n cap) ((varN xs p : Nat) : Int) := r2.other hgf
  have H3 : Hid _ := And.intro C3 (And.intro F3 (And.intro N3 (And.intro R3 eK)))
  clear C2 F2 N2 C3 F3 N3 R3 r2 c2 eK
  by_cases hv2 : varOK xs (varN xs p)
  case neg =>
    have V2 := HH.out.2.2.2.2.2.1 (varN xs p) _ H3.out.1 H3.out.2.2.2.1 (by have := HV.out.2.1; have := HV.out.2.2; omega) hv2
    have he := rhT_2 xs p HV.out.1 hv2
    have H4 : Hid _ := And.intro V2 he
    clear V2 he hv2
    go_wp2_with fail
    go_at_call 24
    refine H4.out.1.mono ?_
    rintro e w4 ⟨rfl, c4⟩
    have H5 : Hid _ := And.intro (H3.out.1.trans (c4.mono fun q hq => Or.inl hq)) True.intro
    clear c4
    go_wp2_with fail
    exact ⟨rfl, H5.out.1, Or.inl ⟨2, H4.out.2, rfl⟩⟩
  case pos =>
  have V2 := HH.out.2.2.2.2.1 (varN xs p) _ H3.out.1 H3.out.2.2.2.1 hv2
  have hb2 := varN_bd xs (varN xs p) hv2
  have hvb := varV_bd xs (varN xs p)
  have hlen := HV.out.2.2
  have HV2 : Hid _ := And.intro hv2 True.intro
  clear hv2
  obtain ⟨m, em⟩ : ∃ m : Nat, varV xs (varN xs p) = (m : Int) := ⟨(varV xs (varN xs p)).toNat, by omega⟩
  obtain ⟨Q2, eQ2⟩ : ∃ Q2, varN xs (varN xs p) = Q2 := ⟨_, rfl⟩
  rw [em, eQ2] at V2
  rw [eQ2] at hb2
  have HE : Hid _ := And.intro em eQ2
  clear em eQ2 hvb
  have hq2 : Q2 ≤ n := by omega
  clear hb2
  by_cases hbig : 16384 < m
  · have he : rhT xs p = .error 3 := rhT_3 xs p HV.out.1 HV2.out.1 (by rw [HE.out.1]; omega)
    have hd : decide ((16384 : Int) < (m : Int)) = true := decide_eq_true (by omega)
    have H4 : Hid _ := And.intro V2 he
    clear V2 he
    go_wp2_with fail
    go_at_call 24
    refine H4.out.1.mono ?_
    rintro e w4 ⟨rfl, r4, c4⟩
    have H5 : Hid _ := And.intro (H3.out.1.trans (c4.mono fun q hq => Or.inl hq)) True.intro
    clear c4 r4
    go_wp2_with fail
    go_at_call 25
    refine (leaveIf_t _ 3 _).mono ?_
    rintro e w5 ⟨rfl, rfl⟩
    go_wp2_with fail
    exact ⟨rfl, H5.out.1, Or.inl ⟨3, H4.out.2, rfl⟩⟩
  have hd : decide ((16384 : Int) < (m : Int)) = false := decide_eq_false (by omega)
  have h3' : ¬ 16384 < varV xs (varN xs p) := by rw [HE.out.1]; omega
  by_cases hsh : n < Q2 + m
  · have he : rhT xs p = .error 2 := rhT_4 xs p HV.out.1 HV2.out.1 h3' (by rw [HE.out.1, HE.out.2]; omega)
    have hsh' : (n : Int) - Q2 < m := by omega
    have H4 : Hid _ := And.intro V2 (And.intro he h3')
    clear V2 he h3'
    go_wp2_with fail
    go_at_call 24
    refine H4.out.1.mono ?_
    rintro e w4 ⟨rfl, r4, c4⟩
    have T4 := HH.out.2.2.2.2.2.2.2.1 Q2 (m : Int) w4 r4 hq2 hsh'
    have H5 : Hid _ := And.intro (H3.out.1.trans (c4.mono fun q hq => Or.inl hq)) T4
    clear c4 r4 T4
    go_wp2_with fail
    go_at_call 25
    refine (leaveIf_f _ 3 _).mono ?_
    rintro e w5 ⟨rfl, rfl⟩
    go_wp2_with fail
    go_at_call 26
    refine H5.out.2.mono ?_
    rintro e w6 ⟨rfl, rfl⟩
    go_wp2_with fail
    exact ⟨rfl, H5.out.1.drew, Or.inl ⟨2, H4.out.2.1, rfl⟩⟩
  have h4' : ¬ xs.length < varN xs (varN xs p) + (varV xs (varN xs p)).toNat := by rw [HE.out.1, HE.out.2]; omega
  have he := rhT_5 xs p HV.out.1 HV2.out.1 h3' h4'
  rw [HE.out.1, HE.out.2, Int.toNat_natCast, ← H3.out.2.2.2.2] at he
  have hys := sub_bytes HH.out.2.2.2.2.2.2.2.2.2 Q2 m
  have hyl : (sub xs Q2 m).length = m := sub_len xs Q2 m (by omega)
  obtain ⟨ys, eys⟩ : ∃ ys, ys = sub xs Q2 m := ⟨_, rfl⟩
  rw [← eys] at he hys hyl
  have H4 : Hid _ := And.intro V2 (And.intro he (And.intro hys (And.intro hyl eys)))
  clear V2 he h3' h4' hys hyl eys
  go_wp2_with fail
  go_at_call 24
  refine H4.out.1.mono ?_
  rintro e w4 ⟨rfl, r4, c4⟩
  have C4 : Chg (S3 g fb nb) w w4 := H3.out.1.trans (c4.mono fun q hq => Or.inl hq)
  have T4 := HH.out.2.2.2.2.2.2.1 Q2 m w4 C4 r4 (by omega)
  rw [show (xs.drop Q2).take m = ys from H4.out.2.2.2.2.symm] at T4
  have F4 := H3.out.2.1.chg c4 hgf
  have N4 := (c4.block nb (Array.getElem?_eq_some_iff.1 H3.out.2.2.1).1 hgn).trans H3.out.2.2.1
  have H5 : Hid _ := And.intro C4 (And.intro T4 (And.intro F4 N4))
  clear C4 T4 F4 N4 r4 c4
  go_wp2_with fail
  go_at_call 25
  refine (leaveIf_f _ 3 _).mono ?_
  rintro e w5 ⟨rfl, hw5⟩
  subst hw5
  go_wp2_with fail
  go_at_call 26
  refine H5.out.2.1.mono ?_
  rintro e w6 ⟨v, rfl, o6, r6, c6⟩
  obtain ⟨va, vc, rfl, pay6, hvl⟩ := pay_of_owns o6
  have C6 : Chg (S3 g fb nb) w w6 := H5.out.1.trans (c6.mono fun q hq => Or.inl hq)
  have F6 := H5.out.2.2.1.chg c6 hgf
  have N6 := (c6.block nb (Array.getElem?_eq_some_iff.1 H5.out.2.2.2).1 hgn).trans H5.out.2.2.2
  have P6 := rbP fb K va m vc ys w6 (HH.out.2.2.2.2.2.2.2.2.1 _ C6) F6 pay6 H4.out.2.2.1 (fun b' off' e h => by have h1 := (hvl b' off' e).1; have h2 := H5.out.1.size; omega) (by omega) (fun e => hT (Or.inr (Or.inl e)))
  have H6 : Hid _ := And.intro C6 (And.intro P6 (And.intro N6 r6))
  clear C6 F6 N6 P6 o6 r6 c6 pay6 hvl
  go_wp2_with fail
  go_at_call 22
  refine H6.out.2.1.mono ?_
  rintro e w7 ⟨c7, ⟨hF, rfl⟩ | ⟨f, hF, rfl, d, s, h1, h2, h3, h4⟩⟩
  · have he : rhT xs p = .error 3 := by rw [H4.out.2.1, hF]
    have C7 : Chg (S3 g fb nb) w w7 := H6.out.1.trans (c7.mono fun q hq => Or.inr (Or.inl hq))
    have H7 : Hid _ := And.intro C7 he
    clear C7 he c7 hF
    unfold faultV
    go_wp2_with fail
    go_at_call 25
    refine (leaveIf_t _ 3 _).mono ?_
    rintro e w8 ⟨rfl, rfl⟩
    go_wp2_with fail
    exact ⟨rfl, H7.out.1, Or.inl ⟨3, H7.out.2, rfl⟩⟩
  · obtain ⟨lf1, lf2, lf3⟩ := rhF_len _ _ _ hF
    have C7 : Chg (S3 g fb nb) w w7 := H6.out.1.trans (c7.mono fun q hq => Or.inr (Or.inl hq))
    have he : rhT xs p = if hyP f.k f.a f.d.length f.s then .ok (f, Q2 + m) else .error 3 := by rw [H4.out.2.1, hF]
    have hl4 := H4.out.2.2.2.1
    have N7 := (c7.block nb (Array.getElem?_eq_some_iff.1 H6.out.2.2.1).1 (fun e => hfn e.symm)).trans H6.out.2.2.1
    have R7 := H6.out.2.2.2.chg c7 (fun e => hgf e.symm)
    have hz7 : w.heap.size ≤ w6.heap.size := H6.out.1.size
    have e0 := h1.c0
    have e1 := h1.c1
    have e2 := h1.c2
    have e3 := h1.c3
    obtain ⟨da, dc, ed⟩ := (row_of_owns h2).form
    obtain ⟨sa, sc, es⟩ := srow_form h3.row
    obtain ⟨dn, edn⟩ : ∃ dn, dn = f.d.length := ⟨_, rfl⟩
    have HO := hokI f.k f.a da dn dc s f.s w7 h3.row (by omega) (by omega)
    rw [lf3] at HO
    rw [← edn] at ed
    have r1 := R7.c1
    have n0 := bk_cell N7 0
    have nf := bk_free N7 0
    simp at n0
    obtain ⟨ok, eok⟩ : ∃ ok, ok = decide (hyP K f.a dn f.s) := ⟨_, rfl⟩
    rw [← eok] at HO
    have H7 : Hid _ := And.intro C7 (And.intro he (And.intro HO (And.intro eok (And.intro edn (And.intro lf3 (And.intro N7 (And.intro R7 (And.intro h1 (And.intro h2 (And.intro h3 (And.intro h4 hz7)))))))))))
    obtain ⟨sn, esn⟩ : ∃ sn, sn = f.s.length := ⟨_, rfl⟩
    rw [← esn] at es
    subst ed
    subst es
    clear C7 he HO eok edn lf1 lf2 lf3 N7 R7 h1 h2 h3 h4 hz7 c7 hF esn hl4
    cases ok with
    | false =>
      go_wp2_with fail
      go_at_call 7
      refine H7.out.2.2.1.mono ?_
      rintro e w8 ⟨rfl, b8⟩
      have he : rhT xs p = .error 3 := by rw [H7.out.2.1, if_neg (by rw [H7.out.2.2.2.2.2.1, ← H7.out.2.2.2.2.1]; exact of_decide_eq_false H7.out.2.2.2.1.symm)]
      have H8 : Hid _ := And.intro (H7.out.1.trans (Chg.of_below b8)) he
      clear b8 he
      go_wp2_with fail
      go_at_call 25
      refine (leaveIf_t _ 3 _).mono ?_
      rintro e w9 ⟨rfl, rfl⟩
      go_wp2_with fail
      exact ⟨rfl, H8.out.1, Or.inl ⟨3, H8.out.2, rfl⟩⟩
    | true =>
      go_wp2_with fail
      go_at_call 7
      refine H7.out.2.2.1.mono ?_
      rintro e w8 ⟨rfl, b8⟩
      have he : rhT xs p = .ok (f, Q2 + m) := by rw [H7.out.2.1, if_pos (by rw [H7.out.2.2.2.2.2.1, ← H7.out.2.2.2.2.1]; exact of_decide_eq_true H7.out.2.2.2.1.symm)]
      have C8 := H7.out.1.trans (Chg.of_below b8)
      have N8 := (b8.block nb (Array.getElem?_eq_some_iff.1 H7.out.2.2.2.2.2.2.1).1).trans H7.out.2.2.2.2.2.2.1
      have R8 := H7.out.2.2.2.2.2.2.2.1.below b8
      have F8 : fB w8 fb K f.a (.slice da dn dc) (.slice sa sn sc) := H7.out.2.2.2.2.2.2.2.2.1.chg (S := fun _ => False) (Chg.of_below b8) (fun h => h)
      have D8 := owns_below H7.out.2.2.2.2.2.2.2.2.2.1 b8
      have S8 := H7.out.2.2.2.2.2.2.2.2.2.2.1.below b8
      have r8 := R8.c1
      have n8 := bk_cell N8 0
      have nf8 := bk_free N8 0
      simp at n8
      have H8 : Hid _ := And.intro C8 (And.intro he (And.intro N8 (And.intro F8 (And.intro D8 S8))))
      clear b8 he C8 N8 R8 F8 D8 S8
      go_wp2_with fail
      go_at_call 25
      refine (leaveIf_f _ 3 _).mono ?_
      rintro e w9 ⟨rfl, hw9⟩
      subst hw9
      go_wp2
      go_end0
      have hz := H7.out.2.2.2.2.2.2.2.2.2.2.2.2
      refine ⟨H8.out.1.set nb 0 _ (Or.inr (Or.inr rfl)), Or.inr ⟨f, Q2 + m, H8.out.2.1, rfl, ⟨_, _, ?_, owns_mono (own_setH H8.out.2.2.2.2.1 (by omega)) hz, (gown_setH H8.out.2.2.2.2.2 (by omega)).mono hz, H7.out.2.2.2.2.2.2.2.2.2.2.2.1⟩, bk_set H8.out.2.2.1 0 _⟩⟩
      rw [H7.out.2.2.2.2.2.1]
      exact (bk_other hfn 0 _).trans H8.out.2.2.2.1
end Go.Proofs.YtdommkpeilmdnaaDoor
