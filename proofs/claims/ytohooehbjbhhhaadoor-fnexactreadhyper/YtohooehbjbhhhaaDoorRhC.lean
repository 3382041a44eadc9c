import Derived.Test.YtohooehbjbhhhaaDoorRhB
namespace Go.Proofs.YtohooehbjbhhhaaDoor
open Go.RowKit
set_option linter.unusedVariables false

theorem Pay.len {w : World} {ao : Option Addr} {n cap : Nat} {ys : List Int} (h : Pay w ao n cap ys) : ys.length = n := by
  rcases h with ⟨_, rfl, _, rfl⟩ | ⟨b, off, _, hl⟩
  · rfl
  · exact hl.len
/-- Its block is none of these. -/
def Off (ao : Option Addr) (S : Nat → Prop) : Prop := ∀ b off, ao = some ⟨b, off, none⟩ → ¬ S b
theorem Pay.chg {S : Nat → Prop} {w w' : World} {ao : Option Addr} {n cap : Nat} {ys : List Int} (h : Pay w ao n cap ys) (hc : Chg S w w') (hs : Off ao S) : Pay w' ao n cap ys := by
  rcases h with h | ⟨b, off, e, hl⟩
  · exact Or.inl h
  · exact Or.inr ⟨b, off, e, hl.chg hc (hs b off e)⟩
theorem takeP (g : Nat) (ao : Option Addr) (n cap p : Nat) (ys : List Int) (w : World) (h : rdB w g (.slice ao n cap) p) (hl : Pay w ao n cap ys) (hg : Off ao (· = g)) (hn : n ≤ 65536) (hp : p ≤ n) :
    Calls Tryd.prog 20 #[.pointer (some ⟨g, 0, none⟩), .int .i64 ((n : Int) - p)] w fun e w' => ∃ v, e = .returned v ∧ w'.ownsRow w.heap.size 5 1 v (ys.drop p).length ((ys.drop p).map (Value.int .u8)) ∧ Chg (· = g) w w' := by
  rcases hl with ⟨rfl, rfl, rfl, rfl⟩ | ⟨b, off, rfl, hl⟩
  · obtain rfl : p = 0 := by omega
    refine (take_nil g w h).mono ?_
    rintro e w' ⟨v, rfl, o, _, c⟩
    exact ⟨v, rfl, o, c⟩
  · have t := take_ok g b off n cap p (n - p) ys w h hl (fun e => hg b off rfl e) hn (by omega)
    have e1 : ((n - p : Nat) : Int) = (n : Int) - p := by omega
    have hL := hl.len
    have e2 : (ys.drop p).take (n - p) = ys.drop p := List.take_of_length_le (by rw [List.length_drop]; omega)
    have e3 : (ys.drop p).length = n - p := by rw [List.length_drop]; omega
    rw [e1] at t
    rw [e2] at t
    rw [e3]
    refine t.mono ?_
    rintro e w' ⟨v, rfl, o, _, c⟩
    exact ⟨v, rfl, o, c⟩
theorem varP (g : Nat) (ao : Option Addr) (n cap p : Nat) (ys : List Int) (w : World) (ht : Tab w) (h : rdB w g (.slice ao n cap) p) (hl : Pay w ao n cap ys) (hB : Bytes ys) (hn : n ≤ 65536) (hv : varOK ys p) :
    Calls Tryd.prog 18 #[.pointer (some ⟨g, 0, none⟩)] w fun e w' => e = .returned (.int .i64 (varV ys p)) ∧ rdB w' g (.slice ao n cap) ((varN ys p : Nat) : Int) ∧ Chg (· = g) w w' := by
  rcases hl with ⟨rfl, rfl, rfl, rfl⟩ | ⟨b, off, rfl, hl⟩
  · exact absurd hv.1 (by simp)
  · exact variable_ok g b off n cap p ys w ht h hl hB hn hv
theorem varPn (g : Nat) (ao : Option Addr) (n cap p : Nat) (ys : List Int) (w : World) (ht : Tab w) (h : rdB w g (.slice ao n cap) p) (hl : Pay w ao n cap ys) (hB : Bytes ys) (hn : n ≤ 65536) (hp : p ≤ n) (hv : ¬ varOK ys p) :
    Calls Tryd.prog 18 #[.pointer (some ⟨g, 0, none⟩)] w fun e w' => e = .panicked [leftP 2] ∧ Chg (· = g) w w' := by
  rcases hl with ⟨rfl, rfl, rfl, rfl⟩ | ⟨b, off, rfl, hl⟩
  · refine variable_bad g none 0 0 _ 2 [] w ht h (Or.inl ⟨rfl, _, _, rfl⟩) hB (by omega) rfl ?_ (by decide)
    obtain rfl : p = 0 := by omega
    rfl
  · exact variable_no g b off n cap p ys w ht h hl hB hn hp hv
/-- What readPayload leaves. -/
def PayR (w w' : World) (fb : Nat) (k : Int) (f : HF) : Prop := ∃ d s : Value, fB w' fb k f.a d s ∧ w'.ownsRow w.heap.size 5 1 d f.d.length (f.d.map (Value.int .u8)) ∧ GOwns 40 2 w' w.heap.size s (SSetting.L f.s) ∧ (∀ j, d.ownBlock = some j → s.ownBlock ≠ some j)
theorem sh_c (k : Int) (h4 : k ≠ 4) (h7 : ¬ (k = 7 ∨ k = 15)) : shN k = false ∧ shS k = 0 := by
  unfold shN shS
  exact ⟨decide_eq_false h7, if_neg h4⟩
theorem sh_n (k : Int) (h7 : k = 7 ∨ k = 15) : shN k = true ∧ shS k = 0 := by
  unfold shN shS
  exact ⟨decide_eq_true h7, if_neg (by omega)⟩
set_option maxRecDepth 20000 in
set_option maxHeartbeats 2000000 in
theorem pay_c (fb g : Nat) (k : Int) (ao : Option Addr) (n cap : Nat) (ys : List Int) (w : World) (ht : Tab w) (hf : fB w fb k 0 (.slice none 0 0) (.slice none 0 0)) (hr : rdB w g (.slice ao n cap) 0) (hl : Pay w ao n cap ys) (hg : Off ao (SG g fb)) (hne : fb ≠ g) (hn : n ≤ 65536) (h4 : k ≠ 4) (h7 : ¬ (k = 7 ∨ k = 15)) :
    Calls Tryd.prog 21 #[.pointer (some ⟨fb, 0, none⟩), .pointer (some ⟨g, 0, none⟩)] w fun e w' => e = .returned (.tuple #[]) ∧ Chg (SG g fb) w w' ∧ PayR w w' fb k ⟨k, 0, ys, []⟩ := by
  have c0 := hf.c0
  obtain ⟨sn, ss⟩ := sh_c k h4 h7
  have SH := shapeI k w
  rw [sn, ss] at SH
  generalize shD k = D at SH
  have TK : ∀ u : World, rdB u g (.slice ao n cap) 0 → Pay u ao n cap ys → _ := fun u h1 h2 => takeP g ao n cap 0 ys u h1 h2 (fun b off e hb => hg b off e (Or.inl hb)) hn (by omega)
  have HH : Hid _ := And.intro SH (And.intro TK (And.intro hf (And.intro hr (And.intro hl (And.intro hg hne)))))
  have hsn : n ≤ 9223372036854775807 := by omega
  clear SH TK sn ss hf hr hl hg hne h4 h7 hn
  go_enter Tryd.func21, Tryd.ntmps21
  go_wp2_with fail
  go_at_call 36
  refine HH.out.1.mono ?_
  rintro e w1 ⟨rfl, b1⟩
  have cb : Chg (SG g fb) w (w1.alloc (.cells #[.bool false, .int .i64 D, .int .i64 0] 63)) := Chg.of_below (b1.alloc b1.size _)
  have bb : Below w.heap.size w (w1.alloc (.cells #[.bool false, .int .i64 D, .int .i64 0] 63)) := b1.alloc b1.size _
  have H1 : Hid _ := And.intro cb bb
  clear cb bb b1
  go_wp2_with fail
  refine wp_loop_rounds 1 ?_
  rw [rounds_succ]
  have RS := restC g ao n cap 0 _ (HH.out.2.2.2.1.below H1.out.2) ⟨by omega, by omega⟩ hsn
  go_wp2_with fail
  go_at_call 35
  refine RS.mono ?_
  rintro e w2 ⟨rfl, hw2⟩
  subst hw2
  have T2 := HH.out.2.1 (w1.alloc (.cells #[.bool false, .int .i64 D, .int .i64 0] 63)).drew (HH.out.2.2.2.1.below (below_drewN H1.out.2 1)) (HH.out.2.2.2.2.1.chg H1.out.1.drew HH.out.2.2.2.2.2.1)
  go_wp2_with fail
  go_at_call 20
  refine T2.mono ?_
  rintro e w3 ⟨v, rfl, o3, c3⟩
  obtain ⟨va, vc, ev⟩ := (row_of_owns o3).form
  have C3 : Chg (SG g fb) w w3 := H1.out.1.drew.trans (c3.mono fun k hk => Or.inl hk)
  have F3 : fB w3 fb k 0 (.slice none 0 0) (.slice none 0 0) := (HH.out.2.2.1.chg (S := fun _ => False) (Chg.of_below (below_drewN H1.out.2 1)) (fun h => h)).chg c3 HH.out.2.2.2.2.2.2
  have hf2 := F3.c2
  have fr2 := F3.fr 2
  subst ev
  have H3 : Hid _ := And.intro C3 (And.intro F3 (owns_mono o3 (show w.heap.size ≤ _ from (below_drewN H1.out.2 1).size)))
  have hfs := HH.out.2.2.1.lt
  have HZ : Hid _ := And.intro (fun j (hj : (Value.slice va (ys.drop 0).length vc).ownBlock = some j) => (o3.lt j hj).1) (show w.heap.size ≤ (w1.alloc (.cells #[.bool false, .int .i64 D, .int .i64 0] 63)).drew.heap.size from (below_drewN H1.out.2 1).size)
  clear C3 F3 o3 c3 RS T2
  go_wp2
  go_end0
  refine ⟨rfl, H3.out.1.set fb 2 _ (Or.inr rfl), _, _, H3.out.2.1.set2 _, ?_, GOwns.nil _ _ _ _, fun j _ e => by cases e⟩
  exact (Only.setCell (w := w3) ⟨fb, 2, none⟩ _).owns (by have := H3.out.2.2; rw [List.drop_zero] at this; exact this) (fun q hq e => by have h1 := (H3.out.2.2.lt q hq).1; have e' : q = fb := Option.some.inj e; omega)
end Go.Proofs.YtohooehbjbhhhaaDoor
