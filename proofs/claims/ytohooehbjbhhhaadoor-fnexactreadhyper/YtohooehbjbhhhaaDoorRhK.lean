import Derived.Test.YtohooehbjbhhhaaDoorRhG
import Derived.Test.YtohooehbjbhhhaaDoorSrF
namespace Go.Proofs.YtohooehbjbhhhaaDoor
open Go.RowKit
set_option linter.unusedVariables false

set_option maxRecDepth 20000 in
set_option maxHeartbeats 1000000 in
theorem variableS_bad (g : Nat) (ao : Option Addr) (n cap : Nat) (p c : Int) (xs : List Int) (w : World) (h : srB w g (.slice ao n cap) p false) (hr0 : Row w .u8 (.slice ao n cap) xs) (hB : Bytes xs) (hn : n ≤ 9223372036854775807) (hlen : xs.length = n) (hv : gv xs p = (0, 0, c)) (hc : c ≠ 0) :
    Calls Tryd.prog 12 #[.pointer (some ⟨g, 0, none⟩)] w fun e w' => e = .returned (.int .i64 0) ∧
      srB w' g (.slice ao n cap) p true ∧ Chg (· = g) w w' := by
  have hr : Row w.drew .u8 (.slice ao n cap) xs := hr0.drewN 1
  have hg := specGetVar _ xs p w.drew hr hB (by omega)
  rw [hv] at hg
  dsimp only at hg
  have d2 := h.c2
  have c0 : w.drew.cell? ⟨g, 0, none⟩ = _ := h.c0
  have c1 : w.drew.cell? ⟨g, 1, none⟩ = _ := h.c1
  have f2 : w.drew.frozen? ⟨g, 2, none⟩ = false := h.fr 2
  have hc' : (c != 0) = true := by simp [hc]
  have HH : Hid _ := And.intro h True.intro
  clear h hr hv hr0 hc
  go_enter Tryd.func12, Tryd.ntmps12
  go_wp2_with fail
  go_region_with (go_at_call 28; refine hg.mono ?_; rintro e w2 ⟨rfl, hw2⟩; rw [hw2]; clear hw2 w2)
  all_goals (go_wp2_with fail; go_ret)
  all_goals (exact ⟨rfl, HH.out.1.set2 _, ⟨rfl, rfl, rfl, by simp [World.setCell], fun q hq hs => bk_other (w := w) hs 2 _⟩⟩)
theorem varSP (g : Nat) (ao : Option Addr) (n cap p : Nat) (ys : List Int) (w : World) (h : srB w g (.slice ao n cap) p false) (hl : Pay w ao n cap ys) (hB : Bytes ys) (hn : n ≤ 65536) (hv : varOK ys p) :
    Calls Tryd.prog 12 #[.pointer (some ⟨g, 0, none⟩)] w fun e w' => e = .returned (.int .i64 (varV ys p)) ∧ srB w' g (.slice ao n cap) ((varN ys p : Nat) : Int) false ∧ Chg (· = g) w w' := by
  rcases hl with ⟨rfl, rfl, rfl, rfl⟩ | ⟨b, off, rfl, hl⟩
  · exact absurd hv.1 (by simp)
  · exact variableS_ok g b off n cap p ys w h hl hB hn hv
theorem varSPn (g : Nat) (ao : Option Addr) (n cap p : Nat) (ys : List Int) (w : World) (h : srB w g (.slice ao n cap) p false) (hl : Pay w ao n cap ys) (hB : Bytes ys) (hn : n ≤ 65536) (hp : p ≤ n) (hv : ¬ varOK ys p) :
    Calls Tryd.prog 12 #[.pointer (some ⟨g, 0, none⟩)] w fun e w' => e = .returned (.int .i64 0) ∧ srB w' g (.slice ao n cap) (p : Int) true ∧ Chg (· = g) w w' := by
  rcases hl with ⟨rfl, rfl, rfl, rfl⟩ | ⟨b, off, rfl, hl⟩
  · refine variableS_bad g none 0 0 _ 2 [] w h (Or.inl ⟨rfl, _, _, rfl⟩) hB (by omega) rfl ?_ (by decide)
    obtain rfl : p = 0 := by omega
    rfl
  · exact variableS_no g b off n cap p ys w h hl hB hn hp hv
set_option maxRecDepth 20000 in
set_option maxHeartbeats 2000000 in
theorem takeS_nil (g : Nat) (w : World) (h : srB w g (.slice none 0 0) 0 false) :
    Calls Tryd.prog 13 #[.pointer (some ⟨g, 0, none⟩), .int .i64 0] w fun e w' => ∃ v, e = .returned v ∧ w'.ownsRow w.heap.size 5 1 v 0 (([] : List Int).map (Value.int .u8)) ∧
      srB w' g (.slice none 0 0) 0 false ∧ Chg (· = g) w w' := by
  have c0 := h.c0
  have c1 := h.c1
  have c2 := h.c2
  have f1 := h.fr 1
  have hw0 : IntKind.i64.wrap 0 = 0 := by decide
  have CH : Chg (· = g) w ((w.setCell ⟨g, 1, none⟩ (.int .i64 0)).drew.drew) := ⟨rfl, rfl, rfl, by simp [World.setCell], fun q hq hs => bk_other (w := w) hs 1 _⟩
  have hR : srB ((w.setCell ⟨g, 1, none⟩ (.int .i64 0)).drew.drew) g (.slice none 0 0) 0 false := h.set1 _
  have hcp := copyS (.slice none 0 0) [] ((w.setCell ⟨g, 1, none⟩ (.int .i64 0)).drew.drew) (Or.inl ⟨rfl, _, _, rfl⟩) (by simp)
  have HH : Hid _ := And.intro CH hR
  clear CH hR h
  go_enter Tryd.func13, Tryd.ntmps13
  go_wp2_with fail
  go_region
  go_wp2_with fail
  go_region_law (go_simp; go_at_call 29; refine hcp.mono ?_; rintro e w2 ⟨r, rfl, o2, b2⟩)
  all_goals (have HF : Hid _ := And.intro o2 (And.intro (HH.out.2.below b2) (HH.out.1.trans (Chg.of_below b2))); clear o2 b2; go_wp2_with fail)
  all_goals (go_ret; exact ⟨r, rfl, owns_mono HF.out.1 (by simp [World.setCell]), HF.out.2.1, HF.out.2.2⟩)
theorem takeSP (g : Nat) (ao : Option Addr) (n cap p : Nat) (ys : List Int) (w : World) (h : srB w g (.slice ao n cap) p false) (hl : Pay w ao n cap ys) (hg : Off ao (· = g)) (hn : n ≤ 65536) (hp : p ≤ n) :
    Calls Tryd.prog 13 #[.pointer (some ⟨g, 0, none⟩), .int .i64 ((n : Int) - p)] w fun e w' => ∃ v, e = .returned v ∧ w'.ownsRow w.heap.size 5 1 v (ys.drop p).length ((ys.drop p).map (Value.int .u8)) ∧ srB w' g (.slice ao n cap) (n : Int) false ∧ Chg (· = g) w w' := by
  rcases hl with ⟨rfl, rfl, rfl, rfl⟩ | ⟨b, off, rfl, hl⟩
  · obtain rfl : p = 0 := by omega
    refine (takeS_nil g w h).mono ?_
    rintro e w' ⟨v, rfl, o, r, c⟩
    exact ⟨v, rfl, o, r, c⟩
  · have t := takeS_ok g b off n cap p (n - p) ys w h hl (fun e => hg b off rfl e) hn (by omega)
    have e1 : ((n - p : Nat) : Int) = (n : Int) - p := by omega
    have hL := hl.len
    have e2 : sub ys p (n - p) = ys.drop p := List.take_of_length_le (by rw [List.length_drop]; omega)
    have e3 : (ys.drop p).length = n - p := by rw [List.length_drop]; omega
    rw [e1, e2, show p + (n - p) = n by omega] at t
    rw [e3]
    exact t
set_option maxRecDepth 20000 in
theorem restSP (g : Nat) (ao : Option Addr) (n cap p : Nat) (ys : List Int) (w : World) (h : srB w g (.slice ao n cap) p false) (hl : Pay w ao n cap ys) (hg : Off ao (· = g)) (hn : n ≤ 65536) (hp : p ≤ n) :
    Calls Tryd.prog 14 #[.pointer (some ⟨g, 0, none⟩)] w fun e w' => ∃ v, e = .returned v ∧ w'.ownsRow w.heap.size 5 1 v (ys.drop p).length ((ys.drop p).map (Value.int .u8)) ∧ srB w' g (.slice ao n cap) (n : Int) false ∧ Chg (· = g) w w' := by
  have T := takeSP g ao n cap p ys w.drew h (hl.chg (S := fun _ => False) ⟨rfl, rfl, rfl, Nat.le_refl _, fun _ _ _ => rfl⟩ (fun _ _ _ h => h)) hg hn hp
  have c0 := h.c0
  have c1 := h.c1
  have hw : IntKind.i64.wrap ((n : Int) - p) = (n : Int) - p := by rw [IntKind.wrap_i64]; omega
  have HT : Hid _ := And.intro T True.intro
  clear T h hl hg
  go_enter Tryd.func14, Tryd.ntmps14
  go_wp2_with fail
  go_region_with (go_at_call 13; refine HT.out.1.mono ?_; rintro e w2 ⟨v, rfl, o2, r2, c2⟩; have H2 : Hid _ := And.intro o2 (And.intro r2 c2); clear o2 r2 c2)
  all_goals (go_wp2_with fail; go_ret; exact ⟨v, rfl, H2.out.1, H2.out.2.1, (Chg.refl _ w).drew.trans H2.out.2.2⟩)
end Go.Proofs.YtohooehbjbhhhaaDoor
