import Derived.Test.YtiiefhpkkjocbalICids
import Derived.Test.YtiiefhpkkjocbalIDigest
import Derived.Test.YtiiefhpkkjocbalAppRow
import Derived.Test.YtiiefhpkkjocbalResetS
namespace Go.Proofs.Ytiiefhpkkjocbal
open Go.RowKit
set_option linter.unusedVariables false

theorem cids1 (n : Nat) (cs : List Int) (e : cs.length = n) : (decide (∀ j, j < ([cs] : List (List Int)).length → (([cs] : List (List Int)).getD j []).length ≤ 8)) = decide (n ≤ 8) := by
  rw [decide_eq_decide]
  constructor
  · intro h; have := h 0 (by simp); simpa [e] using this
  · intro h j hj
    obtain rfl : j = 0 := by simp at hj; omega
    simpa [e] using h
theorem cids1_len (cs : List Int) (h : cs.length ≤ 9223372036854775807) (j : Nat) : (([cs] : List (List Int)).getD j []).length ≤ 9223372036854775807 := by
  match j with
  | 0 => exact h
  | n + 1 => simp [List.getD]
theorem row_parta {w : World} {g t off n c : Nat} {fr : Nat × Nat} {xs : List Int} (h : w.heap[g]? = some (.cells (u8s xs).toArray t fr)) (hn : off + n ≤ xs.length) (hc : n ≤ c) (hm : c ≤ maxLen) : Row w .u8 (.slice (some ⟨g, off, none⟩) n c) ((xs.drop off).take n) := by
  have := row_cut (w := w) (k := .u8) (xs := xs) (b := g) (off := 0) (cap := 0) (at' := off) (n := n) (cap' := c) (Array.getElem?_eq_some_iff.1 h).1 (fun j hj => ?_) hn ⟨hc, hm⟩
  · rwa [Nat.zero_add] at this
  · rw [Nat.zero_add, blkS_cell h]
    simp [u8s, List.getD, hj]
set_option maxHeartbeats 1000000 in
theorem ireset_badkey (ak : Option Addr) (n pk : Nat) (cv : Value) (w : World) (h : n ≠ 16) (hn : n ≤ 9223372036854775807) :
    Calls Try.prog 8 #[.slice ak n pk, cv] w fun e w' => ∃ r, e = .returned r ∧ w'.ownsRow w.heap.size 5 1 r 0 (([] : List Int).map (Value.int .u8)) ∧ Below w.heap.size w w' := by
  have hne : ((n : Int) != 16) = true := by simp; omega
  go_enter Try.func8, Try.ntmps8
  go_wp2
  go_ret
  exact ⟨_, rfl, World.ownsRow_nil _ _ _ _, Below.refl _ _⟩
set_option maxRecDepth 20000 in
set_option maxHeartbeats 1000000 in
theorem ireset_badcid (ak ac : Option Addr) (m pk pc : Nat) (cs : List Int) (w : World) (hc : Row w .u8 (.slice ac m pc) cs) (em : cs.length = m) (h8 : 8 < m) (hm : m ≤ 9223372036854775807) :
    Calls Try.prog 8 #[.slice ak 16 pk, .slice ac m pc] w fun e w' => ∃ r, e = .returned r ∧ w'.ownsRow w.heap.size 5 1 r 0 (([] : List Int).map (Value.int .u8)) ∧ Below w.heap.size w w' := by
  have HH : Hid _ := And.intro hc em
  clear hc em
  go_enter Try.func8, Try.ntmps8
  go_wp2_with fail
  go_at_call 21
  refine (icids _ [cs] _ (parts1 HH.out.1 _) (by simp) (cids1_len cs (by rw [HH.out.2]; exact hm))).mono ?_
  rw [cids1 m cs HH.out.2, decide_eq_false (by omega)]
  rintro e w' ⟨rfl, hw⟩
  subst w'
  go_wp2
  go_ret
  exact ⟨_, rfl, World.ownsRow_nil _ _ _ _, (Below.refl _ _).alloc (Nat.le_refl _) _⟩
set_option maxRecDepth 20000 in
set_option maxHeartbeats 4000000 in
theorem ireset_ok (ak ac : Option Addr) (m pk pc : Nat) (ks cs : List Int) (w : World) (hk : Row w .u8 (.slice ak 16 pk) ks) (hc : Row w .u8 (.slice ac m pc) cs) (lk : ks.length = 16) (em : cs.length = m) (h8 : m ≤ 8) (bk : Bytes ks) (bc : Bytes cs) :
    Calls Try.prog 8 #[.slice ak 16 pk, .slice ac m pc] w fun e w' => ∃ r, e = .returned r ∧ w'.ownsRow w.heap.size 5 1 r (tokV ks cs).length ((tokV ks cs).map (Value.int .u8)) ∧ Below w.heap.size w w' := by
  have C0 : Below w.heap.size w (w.alloc (.cells #[.slice ac m pc] 22)) := (Below.refl _ _).alloc (Nat.le_refl _) _
  have HH : Hid _ := And.intro (And.intro hk hc) (And.intro (And.intro bk bc) (And.intro lk (And.intro em C0)))
  clear hk hc bk bc lk em C0
  go_enter Try.func8, Try.ntmps8
  go_wp2_with fail
  go_at_call 21
  refine (icids _ [cs] _ (parts1 HH.out.1.2 _) (by simp) (cids1_len cs (by rw [HH.out.2.2.2.1]; omega))).mono ?_
  rw [cids1 m cs HH.out.2.2.2.1, decide_eq_true h8]
  rintro e w' ⟨rfl, hw⟩
  subst w'
  go_wp2_with fail
  go_at_call 22
  have es1 : (w.alloc (.cells #[.slice ac m pc] 22)).heap.size = w.heap.size + 1 := by simp
  have HP := parts1 (HH.out.1.2.below HH.out.2.2.2.2) 22
  rw [es1] at HP
  have HK : Row ((w.alloc (.cells #[.slice ac m pc] 22)).alloc (.cells #[.slice ac m pc] 22)) .u8 (.slice ak 16 pk) ks := HH.out.1.1.below (HH.out.2.2.2.2.trans (((Below.refl _ _).alloc (Nat.le_refl _) _).mono HH.out.2.2.2.2.size))
  refine (iparts _ _ ks [cs] _ HK HH.out.2.1.1 (by rw [HH.out.2.2.1]; decide) HP (bytes_getD1 HH.out.2.1.2) (by have := HH.out.2.2.2.1; simp; omega) (by simp)).mono ?_
  rintro e w3 ⟨rfl, b3⟩
  have ef : [cs].flatten = cs := by simp
  rw [ef]
  have hdl := digV_length ks cs
  have H3 : Hid (Below w.heap.size w w3 ∧ (digV ks cs).length = 16) := And.intro ((HH.out.2.2.2.2.alloc HH.out.2.2.2.2.size _).trans (b3.mono (by simp <;> omega))) hdl
  have z3 : w.heap.size ≤ w3.heap.size := H3.out.1.size
  clear b3 ef hdl es1 HP HK
  obtain ⟨D, eD⟩ : ∃ D, D = digV ks cs := ⟨_, rfl⟩
  rw [← eD] at H3 ⊢
  have ED : Hid _ := eD
  clear eD
  go_wp2_with (first
    | (refine wpList_store_at rfl 37 (.tmp 5) (.tmp 18) rfl w3.heap.size _ rfl rfl 37 _ (MapKept.heap_alloc w3 _).1 (infoBs _ H3.out.2) (by simp [u8s_length, H3.out.2]) (u8s_all _) ?_; intro w4 h4 m4; have C4 : Hid (Below w.heap.size w w4) := (H3.out.1.alloc (by omega) _).trans (m4.below (by omega)); have R4 : Hid (Row w4 .u8 (.slice (some ⟨w3.heap.size, 0, none⟩) 8 16) (D.take 8)) := by show Row _ _ _ _; have := row_parta (off := 0) (n := 8) (c := 16) h4 (by rw [H3.out.2]; decide) (by decide) (by decide); rwa [List.drop_zero] at this)
    | (at_builtin; refine wpList_append_row rfl (.const _) (.tmp 19) rfl w4.heap.size (.slice none 0 0) 0 [] rfl (World.ownsRow_nil _ _ _ _) (.slice (some ⟨w3.heap.size, 0, none⟩) 8 16) (D.take 8) rfl R4.out (by rw [List.length_take, H3.out.2]; decide) (Nat.le_refl _) ?_; intro q5 w5 o5 g5))
  go_ret
  refine ⟨_, rfl, ?_, C4.out.grown g5 C4.out.size (by intro k hk; cases hk)⟩
  have e : tokV ks cs = D.take 8 := by rw [ED.out]; rfl
  rw [e]
  have := owns_mono o5 C4.out.size
  simpa using this
end Go.Proofs.Ytiiefhpkkjocbal
