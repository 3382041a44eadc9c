import Derived.Test.YtjdmknlcjejecaaIkA
import Derived.Test.YtjdmknlcjejecaaIVers
import Derived.Test.YtjdmknlcjejecaaIDerive
import Derived.Test.YtjdmknlcjejecaaIKeysOf
import Derived.Test.YtjdmknlcjejecaaHigh
import Derived.Test.YtjdmknlcjejecaaIParts
import Derived.Deep.RegionWith
namespace Go.Proofs.Ytjdmknlcjejecaa
open Go.RowKit
set_option linter.unusedVariables false

set_option maxRecDepth 20000 in
set_option maxHeartbeats 2000000 in
theorem putFixed1 (b off n : Nat) (xs : List Int) (v : Int) (g : Nat) (w : World) (en : xs.length = n) (hx : Row w .u8 (.slice (some ⟨b, off, none⟩) n n) xs) (h1 : 0 < n) (hn : n ≤ 1024) (hv0 : 0 ≤ v) (hv1 : v ≤ 4294967295) (hc : w.cell? ⟨g, 0, none⟩ = some (.int .i64 v)) :
    Calls Try.prog 20 #[.slice (some ⟨b, off, none⟩) n n, .int .i64 4, .slice (some ⟨g, 0, none⟩) 1 1] w fun e w' => ∃ r, e = .returned r ∧ w'.ownsRow w.heap.size 5 1 r (n + 4) ((xs ++ be v 4).map (Value.int .u8)) ∧ Below w.heap.size w w' := by
  have HH : Hid _ := And.intro hx en
  have hw64 : IntKind.u64.wrap v = v := by rw [IntKind.wrap_u64]; omega
  clear hx en
  go_enter Try.func20, Try.ntmps20
  go_wp2
  refine wp_loop_rounds 2 ?_
  rw [rounds_succ]
  go_wp2_with (first
    | (go_at_call 31; refine (high v 4 w (by omega) (by omega) (by decide)).mono ?_; rintro e w1 ⟨r1, rfl, o1, b1⟩; have H1 : Hid _ := And.intro (row_of_owns o1) b1; clear o1 b1)
    | (at_builtin; refine wpList_append_full rfl (.tmp 15) (.tmp 19) rfl w.heap.size b off n xs HH.out.2 rfl (HH.out.1.below H1.out.2) _ (be v 4) rfl H1.out.1 (by rw [be_length]; decide) h1 (by rw [be_length]; omega) H1.out.2.size ?_; intro q2 w2 o2 g2; have H2 : Hid _ := And.intro o2 (H1.out.2.grown g2 H1.out.2.size (fun q hq => by cases hq)); clear o2 g2))
  rw [rounds_succ]
  go_wp2
  go_ret
  exact ⟨_, rfl, by have := H2.out.1; rwa [be_length] at this, H2.out.2⟩

theorem cids1 (n : Nat) (d : List Int) (e : d.length = n) : (decide (∀ j, j < ([d] : List (List Int)).length → (([d] : List (List Int)).getD j []).length ≤ 8)) = decide (n ≤ 8) := by
  rw [decide_eq_decide]
  constructor
  · intro h
    have := h 0 (by simp)
    simp [e] at this
    exact this
  · intro h j hj
    obtain rfl : j = 0 := by simp at hj; omega
    simp [e]
    exact h
theorem cids1_len (d : List Int) (h : d.length ≤ 9223372036854775807) (j : Nat) : (([d] : List (List Int)).getD j []).length ≤ 9223372036854775807 := by
  match j with
  | 0 => exact h
  | n + 1 => simp [List.getD]

set_option maxRecDepth 20000 in
theorem ikI_bad (v : Int) (ao : Option Addr) (n cap : Nat) (cid : List Int) (w : World) (hr : Row w .u8 (.slice ao n cap) cid) (en : cid.length = n) (h : ¬ (vok v ∧ n ≤ 8)) (hn : n ≤ 9223372036854775807) :
    Calls Try.prog 6 #[.int .i64 v, .slice ao n cap] w (IkPost w kZero kZero) := by
  have B2 : Below w.heap.size w ((w.alloc Kz).alloc Kz) := ((Below.refl _ _).alloc (Nat.le_refl _) _).alloc (by simp) _
  by_cases hv : vok v
  · have h8 : ¬ n ≤ 8 := fun q => h ⟨hv, q⟩
    have HP := icids _ [cid] _ (parts1 (hr.below B2) 22) (by simp) (cids1_len cid (by omega))
    rw [cids1 n cid en, decide_eq_false h8, show ((w.alloc Kz).alloc Kz).heap.size = w.heap.size + 1 + 1 by simp] at HP
    have HV : Hid _ := And.intro (iVok v ((w.alloc Kz).alloc Kz) hv) (And.intro HP (B2.alloc B2.size (.cells #[.slice ao n cap] 22)))
    clear h hv hr en HP B2 h8
    go_enter Try.func6, Try.ntmps6
    go_wp2_with (first
      | (go_at_call 17; refine HV.out.1.mono ?_; rintro e w' ⟨rfl, hw⟩; subst w')
      | (go_at_call 18; refine HV.out.2.1.mono ?_; rintro e w' ⟨rfl, hw⟩; subst w'))
    refine bodyPost_ret (v := .tuple #[.agg #[.slice none 0 0, .slice none 0 0, .slice none 0 0, .slice none 0 0], .agg #[.slice none 0 0, .slice none 0 0, .slice none 0 0, .slice none 0 0]]) (by simp [results, Try.results6, go_sem]) rfl ?_
    exact ik_zero HV.out.2.2
  · have HV : Hid _ := And.intro (iVbad v ((w.alloc Kz).alloc Kz) hv) B2
    clear h hv hr en B2
    go_enter Try.func6, Try.ntmps6
    go_wp2_with (go_at_call 17; refine HV.out.1.mono ?_; rintro e w' ⟨rfl, hw⟩; subst w')
    refine bodyPost_ret (v := .tuple #[.agg #[.slice none 0 0, .slice none 0 0, .slice none 0 0, .slice none 0 0], .agg #[.slice none 0 0, .slice none 0 0, .slice none 0 0, .slice none 0 0]]) (by simp [results, Try.results6, go_sem]) rfl ?_
    exact ik_zero HV.out.2
end Go.Proofs.Ytjdmknlcjejecaa
