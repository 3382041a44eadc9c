import Derived.Test.YtabnicgbcedddaaTcR
namespace Go.Proofs.Ytabnicgbcedddaa
open Go.RowKit
set_option linter.unusedVariables false

theorem OT.setLim {w : World} {G R base : Nat} {f mo ca ad cost : Int} {RL : List SField} (h : OT w G R base f mo ca ad cost RL) (x : Int) :
    OT (w.setCell ⟨G, 3, none⟩ (.int .i64 x)) G R base f mo x ad cost RL :=
  ⟨by rw [bk_set h.blk 3 _]; rfl, GOwns.only (Only.setCell (w := w) ⟨G, 3, none⟩ _) h.row (fun k hk e => by have e1 : R = k := Option.some.inj hk; have e2 : k = G := Option.some.inj e; exact h.ne (e1.trans e2)), h.len, h.ne⟩
set_option maxRecDepth 20000 in
theorem setLimit_no (G R base f : Nat) (mo ca ad x : Int) (RL L : List SField) (w : World) (ot : OT w G R base f mo ca ad (csts L) RL) (hx : x < 0 ∨ mo < x) :
    Calls Try.prog 33 #[.pointer (some ⟨G, 0, none⟩), .int .i64 x] w fun e w' => e = .returned (.int .i64 16) ∧ Below w.heap.size w w' := by
  obtain ⟨t0, t1, t2, t3, t4, t5⟩ := ot.cells
  have HH : Hid _ := And.intro ot True.intro
  clear ot
  by_cases h0 : x < 0
  · go_enter Try.func33, Try.ntmps33
    go_wp2
    go_ret
    exact ⟨rfl, Below.refl _ _⟩
  · have h1 : mo < x := by omega
    clear hx
    go_enter Try.func33, Try.ntmps33
    go_wp2
    go_ret
    exact ⟨rfl, Below.refl _ _⟩
set_option maxRecDepth 20000 in
theorem setLimit_yes (G R base f n : Nat) (mo ca ad x : Int) (RL L : List SField) (w : World) (ot : OT w G R base f mo ca ad (csts L) RL) (hR : RingHas RL f L n) (en : L.length = n) (hn : n ≤ 124) (ht : txs L ≤ 1048576) (hf : (f : Int) + n ≤ 4611686018427387902) (h0 : 0 ≤ x) (h1 : x ≤ mo) (hmo : mo ≤ 4096) :
    Calls Try.prog 33 #[.pointer (some ⟨G, 0, none⟩), .int .i64 x] w fun e w' => e = .returned (.int .i64 0) ∧ (∃ RL' A, A = gng x L ∧ OT w' G R base ((f + A : Nat) : Int) mo x ad (csts (L.drop A)) RL' ∧ RingHas RL' (f + A) (L.drop A) (n - A)) ∧ ChgF (K2F G R) w w' := by
  have MM := makeRoomI G R base f n mo x ad 0 RL L (w.setCell ⟨G, 3, none⟩ (.int .i64 x)) (ot.setLim x) hR en hn ht hf (by decide) h0 (by omega)
  rw [Int.sub_zero] at MM
  obtain ⟨t0, t1, t2, t3, t4, t5⟩ := ot.cells
  have g3 : w.frozen? ⟨G, 3, none⟩ = false := bk_free ot.blk 3
  have cs : ChgF (K2F G R) w (w.setCell ⟨G, 3, none⟩ (.int .i64 x)) := (ChgF.of_below (S := K2F G R) (Below.refl w.heap.size w)).set' G 3 (.int .i64 x) (Or.inl rfl)
  have HH : Hid _ := And.intro MM cs
  clear MM cs ot hR
  go_enter Try.func33, Try.ntmps33
  go_wp2_with (go_at_call 46; refine HH.out.1.mono ?_; rintro e w1 ⟨rfl, h1, c1⟩)
  go_ret
  exact ⟨rfl, h1, HH.out.2.trans c1⟩
-- The closure of TableCap.
set_option maxRecDepth 20000 in
theorem capNo (G R base f g : Nat) (mo ca ad x : Int) (RL L : List SField) (w : World) (ot : OT w G R base f mo ca ad (csts L) RL) (hx : x < 0 ∨ mo < x) (hg : w.cell? ⟨g, 0, none⟩ = some (.int .i64 x)) :
    Calls Try.prog 32 #[.pointer (some ⟨G, 0, none⟩), .pointer (some ⟨g, 0, none⟩)] w fun e w' => e = .returned (.int .i64 16) ∧ Below w.heap.size w w' := by
  have CC := setLimit_no G R base f mo ca ad x RL L w ot hx
  clear ot hx
  go_enter Try.func32, Try.ntmps32
  go_wp2_with (go_at_call 33; refine CC.mono ?_; rintro e w1 ⟨rfl, h1⟩)
  go_ret
  exact ⟨rfl, h1⟩
set_option maxRecDepth 20000 in
theorem capYes (G R base f n g : Nat) (mo ca ad x : Int) (RL L : List SField) (w : World) (ot : OT w G R base f mo ca ad (csts L) RL) (hR : RingHas RL f L n) (en : L.length = n) (hn : n ≤ 124) (ht : txs L ≤ 1048576) (hf : (f : Int) + n ≤ 4611686018427387902) (h0 : 0 ≤ x) (h1 : x ≤ mo) (hmo : mo ≤ 4096) (hg : w.cell? ⟨g, 0, none⟩ = some (.int .i64 x)) :
    Calls Try.prog 32 #[.pointer (some ⟨G, 0, none⟩), .pointer (some ⟨g, 0, none⟩)] w fun e w' => e = .returned (.int .i64 0) ∧ (∃ RL' A, A = gng x L ∧ OT w' G R base ((f + A : Nat) : Int) mo x ad (csts (L.drop A)) RL' ∧ RingHas RL' (f + A) (L.drop A) (n - A)) ∧ ChgF (K2F G R) w w' := by
  have CC := setLimit_yes G R base f n mo ca ad x RL L w ot hR en hn ht hf h0 h1 hmo
  clear ot hR
  go_enter Try.func32, Try.ntmps32
  go_wp2_with (go_at_call 33; refine CC.mono ?_; rintro e w1 ⟨rfl, h1, c1⟩)
  go_ret
  exact ⟨rfl, h1, c1⟩
end Go.Proofs.Ytabnicgbcedddaa
