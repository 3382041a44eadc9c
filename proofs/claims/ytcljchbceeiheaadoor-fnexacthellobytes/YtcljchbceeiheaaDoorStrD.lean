import Derived.Test.YtcljchbceeiheaaDoorStrC
namespace Go.Proofs.YtcljchbceeiheaaDoor
open Go.RowKit
set_option linter.unusedVariables false

def marksT (q : Int) (n : Nat) : List ByteArray := (List.range n).map fun (i : Nat) => mkT (q + (i : Int))
theorem marksT_length (q : Int) (n : Nat) : (marksT q n).length = n := by simp [marksT]
theorem marksT_at (q : Int) (n j : Nat) (h : j < n) : (marksT q n).getD j ByteArray.empty = mkT (q + (j : Int)) := by simp [marksT, List.getD, h]
theorem Chg.set {S : Nat → Prop} {w w' : World} (h : Chg S w w') (a : Addr) (u : Value) (hs : S a.block) : Chg S w (w'.setCell a u) :=
  h.trans ⟨rfl, rfl, rfl, by simp [World.setCell], fun k hk hn => Below.heap_setCell _ _ _ _ (fun e => hn (by rw [e]; exact hs))⟩
theorem markStrs_nil (q : Int) (ao : Option Addr) (cap : Nat) (w : World) :
    Calls Tryd.prog 36 #[.slice ao 0 cap, .int .i64 q] w fun e w' => e = .returned (.int .i64 q) ∧ w' = w := by
  go_enter Tryd.func36, Tryd.ntmps36
  go_wp2
  refine wp_loop_rounds 1 ?_
  rw [rounds_succ]
  go_wp2
  go_ret
  exact ⟨rfl, rfl⟩
set_option maxRecDepth 20000 in
set_option maxHeartbeats 800000 in
theorem markStrs_core (q : Int) (n base g cap : Nat) (L : List ByteArray) (w : World) (hl : L.length = n) (hn : n ≤ 1048576) (q0 : 0 ≤ q) (q1 : q ≤ 140737400000000) (ho : w.ownsRow base 9 1 (.slice (some ⟨g, 0, none⟩) n cap) n (L.map Value.string)) :
    Calls Tryd.prog 36 #[.slice (some ⟨g, 0, none⟩) n cap, .int .i64 q] w fun e w' => e = .returned (.int .i64 (q + (n : Int))) ∧ w'.ownsRow base 9 1 (.slice (some ⟨g, 0, none⟩) n cap) n ((marksT q n).map Value.string) ∧ Chg (fun k => k = g) w w' := by
  have HH : Hid _ := And.intro ho hl
  clear ho hl
  go_enter Tryd.func36, Tryd.ntmps36
  go_wp2
  go_loopw [1, 5] (fun s i wr => ∃ k : Nat, k ≤ n ∧ i = .int .i64 (k : Int) ∧ s = .int .i64 (q + (k : Int)) ∧ ∃ zs : List ByteArray, zs.length = n ∧ (∀ j, j < k → zs.getD j ByteArray.empty = mkT (q + (j : Int))) ∧ wr.ownsRow base 9 1 (.slice (some ⟨g, 0, none⟩) n cap) n (zs.map Value.string) ∧ Chg (fun k => k = g) w wr) (fun _ i _ => n - (intOf i).toNat)
  case atStart => exact ⟨0, Nat.zero_le _, rfl, by simp, L, HH.out.2, fun j h => by omega, HH.out.1, ⟨rfl, rfl, rfl, Nat.le_refl _, fun _ _ _ => rfl⟩⟩
  case round =>
    obtain ⟨k, hk, rfl, rfl, zs, hl, hm, hown, hch⟩ := hrel
    by_cases hlt : k < n
    · have HC : Hid _ := And.intro (markTextC (q + (k : Int)) wr (by omega)) (And.intro hl (And.intro hm (And.intro hown hch)))
      have ew : IntKind.i64.wrap (q + (k : Int) + 1) = q + (k : Int) + 1 := by rw [IntKind.wrap_i64]; omega
      clear hl hm hown hch
      go_wp2_with (go_at_call 53; refine HC.out.1.mono ?_; rintro e w1 ⟨rfl, b1⟩; have own1 := owns_below HC.out.2.2.2.1 b1; have f1 := own1.frozenAt k; have c1 := owns_cellT own1 HC.out.2.1 hlt; have R := fill_stepT (w := w1) (B := 0) (x := mkT (q + (k : Int))) (f := fun j => mkT (q + (j : Int))) rfl HC.out.2.1 hlt HC.out.2.2.1 own1 (Below.refl _ _) (Nat.zero_le _); have HR : Hid _ := And.intro R (And.intro (HC.out.2.2.2.2.trans (Chg.of_below b1)) True.intro); clear R own1 b1)
      go_roundw
      case rel =>
        obtain ⟨ys, r1, r2, r3, _⟩ := HR.out.1
        exact ⟨k + 1, by omega, by go_num, by go_num, ys, r1, r2, r3, HR.out.2.1.set _ _ rfl⟩
      case measure => simp [intOf]; omega
    · obtain rfl : k = n := by omega
      have HR : Hid _ := And.intro hl (And.intro hm (And.intro hown hch))
      clear hl hm hown hch
      go_wp2
      go_ret
      obtain ⟨r1, r2, r3, r4⟩ := HR.out
      obtain rfl : zs = marksT q k := tlist_eq r1 (marksT_length q k) (fun j hj => by rw [r2 j hj, marksT_at q k j hj])
      exact ⟨rfl, r3, r4⟩
/-- The law's marks in a row of texts of one's own. -/
theorem markStrs (q : Int) (n base : Nat) (v : Value) (L : List ByteArray) (w : World) (hl : L.length = n) (hn : n ≤ 1048576) (q0 : 0 ≤ q) (q1 : q ≤ 140737400000000) (ho : w.ownsRow base 9 1 v n (L.map Value.string)) :
    Calls Tryd.prog 36 #[v, .int .i64 q] w fun e w' => e = .returned (.int .i64 (q + (n : Int))) ∧ w'.ownsRow base 9 1 v n ((marksT q n).map Value.string) ∧ Chg (fun k => v.ownBlock = some k) w w' := by
  rcases ho.2 with ⟨rfl, h0⟩ | ⟨g, cap, cur, rfl, _⟩
  · have : n = 0 := by have := ho.1; rw [h0] at this; simp at this; omega
    subst this
    refine (markStrs_nil q none 0 w).mono ?_
    rintro e w' ⟨rfl, rfl⟩
    exact ⟨by simp, World.ownsRow_nil _ _ _ _, ⟨rfl, rfl, rfl, Nat.le_refl _, fun _ _ _ => rfl⟩⟩
  · refine (markStrs_core q n base g cap L w hl hn q0 q1 ho).mono ?_
    rintro e w' ⟨rfl, h1, h2⟩
    exact ⟨rfl, h1, ⟨h2.os, h2.tape, h2.output, h2.size, fun k hk hs => h2.block k hk (fun e => hs (by rw [e]; rfl))⟩⟩
end Go.Proofs.YtcljchbceeiheaaDoor
