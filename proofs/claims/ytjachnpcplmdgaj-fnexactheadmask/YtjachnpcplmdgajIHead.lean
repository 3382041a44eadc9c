import Derived.Test.YtjachnpcplmdgajIPart
import Derived.Test.YtjachnpcplmdgajHeadS
namespace Go.Proofs.Ytjachnpcplmdgaj
open Go.RowKit
set_option linter.unusedVariables false

theorem row_partc {w : World} {g t off n c : Nat} {fr : Nat × Nat} {xs : List Int} (h : w.heap[g]? = some (.cells (u8s xs).toArray t fr)) (hn : off + n ≤ xs.length) (hc : n ≤ c) (hm : c ≤ maxLen) : Row w .u8 (.slice (some ⟨g, off, none⟩) n c) ((xs.drop off).take n) := by
  have := row_cut (w := w) (k := .u8) (xs := xs) (b := g) (off := 0) (cap := 0) (at' := off) (n := n) (cap' := c) (Array.getElem?_eq_some_iff.1 h).1 (fun j hj => ?_) hn ⟨hc, hm⟩
  · rwa [Nat.zero_add] at this
  · rw [Nat.zero_add, blkS_cell h]
    simp [u8s, List.getD, hj]

set_option maxRecDepth 20000 in
set_option maxHeartbeats 4000000 in
theorem ihead_badkey (v sv : Value) (k : K4) (w : World) (hk : KRow w v k) (ho : ¬ kok k) :
    Calls Try.prog 19 #[v, sv] w fun e w' => ∃ r, e = .returned r ∧ w'.ownsRow w.heap.size 5 1 r 0 [] ∧ Below w.heap.size w w' := by
  obtain ⟨v0, v1, v2, v3, rfl, r0, r1, r2, r3⟩ := id hk
  have C0 : Below w.heap.size w (w.alloc (.cells #[v0, v1, v2, v3] 28)) := (Below.refl _ _).alloc (Nat.le_refl _) _
  have HW : Hid _ := And.intro (innerOf_bad _ k _ (hk.below C0) ho) C0
  clear r0 r1 r2 r3 C0 ho hk
  go_enter Try.func19, Try.ntmps19
  go_wp2_with fail
  go_at_call 26
  refine HW.out.1.mono ?_
  rintro e w1 ⟨rfl, b1⟩
  have H1 : Hid _ := And.intro (HW.out.2.trans (b1.mono HW.out.2.size)) True.intro
  have z1 : w.heap.size ≤ w1.heap.size := H1.out.1.size
  clear b1
  go_wp2_with (refine wpList_store_at rfl 46 (.tmp 5) (.tmp 11) rfl w1.heap.size _ rfl rfl 46 _ (MapKept.heap_alloc w1 _).1 (infoIs _ (by simp)) (by simp [u8s_length]) (u8s_all _) ?_; intro w2 h2 m2)
  go_ret
  exact ⟨_, rfl, World.ownsRow_nil _ _ _ _, (H1.out.1.alloc (by omega) _).trans (m2.below (by omega))⟩

set_option maxRecDepth 20000 in
set_option maxHeartbeats 4000000 in
theorem ihead_badlen (v : Value) (ao : Option Addr) (n p : Nat) (k : K4) (w : World) (hk : KRow w v k) (ho : kok k) (hn : n ≠ 8) (hn1 : n ≤ 9223372036854775807) :
    Calls Try.prog 19 #[v, .slice ao n p] w fun e w' => ∃ r, e = .returned r ∧ w'.ownsRow w.heap.size 5 1 r 0 [] ∧ Below w.heap.size w w' := by
  obtain ⟨v0, v1, v2, v3, rfl, r0, r1, r2, r3⟩ := id hk
  have C0 : Below w.heap.size w (w.alloc (.cells #[v0, v1, v2, v3] 28)) := (Below.refl _ _).alloc (Nat.le_refl _) _
  have HW : Hid _ := And.intro (innerOf_ok _ k _ (hk.below C0) ho) (And.intro C0 (inL_length k ho))
  have hne : ((n : Int) != 8) = true := by simp; omega
  clear r0 r1 r2 r3 C0 ho hk
  go_enter Try.func19, Try.ntmps19
  go_wp2_with fail
  go_at_call 26
  refine HW.out.1.mono ?_
  rintro e w1 ⟨rfl, b1⟩
  have H1 : Hid _ := And.intro (HW.out.2.1.trans (b1.mono HW.out.2.1.size)) True.intro
  have z1 : w.heap.size ≤ w1.heap.size := H1.out.1.size
  clear b1
  go_wp2_with (refine wpList_store_at rfl 46 (.tmp 5) (.tmp 11) rfl w1.heap.size _ rfl rfl 46 _ (MapKept.heap_alloc w1 _).1 (infoIs _ HW.out.2.2) (by simp [u8s_length, HW.out.2.2]) (u8s_all _) ?_; intro w2 h2 m2)
  go_ret
  exact ⟨_, rfl, World.ownsRow_nil _ _ _ _, (H1.out.1.alloc (by omega) _).trans (m2.below (by omega))⟩

set_option maxRecDepth 20000 in
set_option maxHeartbeats 8000000 in
theorem ihead_ok (v : Value) (ao : Option Addr) (p : Nat) (k : K4) (ss : List Int) (w : World) (hk : KRow w v k) (kb : k.bytes) (ho : kok k) (hs : Row w .u8 (.slice ao 8 p) ss) (hl : ss.length = 8) (bs : Bytes ss) :
    Calls Try.prog 19 #[v, .slice ao 8 p] w fun e w' => ∃ r, e = .returned r ∧ w'.ownsRow w.heap.size 5 1 r (headV k ss).length ((headV k ss).map (Value.int .u8)) ∧ Below w.heap.size w w' := by
  obtain ⟨v0, v1, v2, v3, rfl, r0, r1, r2, r3⟩ := id hk
  have C0 : Below w.heap.size w (w.alloc (.cells #[v0, v1, v2, v3] 28)) := (Below.refl _ _).alloc (Nat.le_refl _) _
  have HW : Hid _ := And.intro (innerOf_ok _ k _ (hk.below C0) ho) (And.intro C0 (And.intro (inL_length k ho) (And.intro ho (And.intro kb (And.intro hs (And.intro hl bs))))))
  clear r0 r1 r2 r3 C0 ho hk kb hs hl bs
  go_enter Try.func19, Try.ntmps19
  go_wp2_with fail
  go_at_call 26
  refine HW.out.1.mono ?_
  rintro e w1 ⟨rfl, b1⟩
  have H1 : Hid _ := And.intro (HW.out.2.1.trans (b1.mono HW.out.2.1.size)) True.intro
  have z1 : w.heap.size ≤ w1.heap.size := H1.out.1.size
  clear b1
  go_wp2_with (refine wpList_store_at rfl 46 (.tmp 5) (.tmp 11) rfl w1.heap.size _ rfl rfl 46 _ (MapKept.heap_alloc w1 _).1 (infoIs _ HW.out.2.2.1) (by simp [u8s_length, HW.out.2.2.1]) (u8s_all _) ?_; intro w2 h2 m2)
  go_at_call 33
  have C2 : Below w.heap.size w w2 := (H1.out.1.alloc (by omega) _).trans (m2.below (by omega))
  have H2 : Hid _ := And.intro C2 h2
  clear h2 m2 C2
  refine (iparts _ _ k.d [ss] _ ((inL_rows H2.out.2 HW.out.2.2.2.1).2.2.1.below ((Below.refl _ _).alloc (Nat.le_refl _) _)) HW.out.2.2.2.2.1.2.2.2 (by rw [HW.out.2.2.2.1.2.2.2]; decide) (parts1 (HW.out.2.2.2.2.2.1.below H2.out.1) _) (bytes_getD1 HW.out.2.2.2.2.2.2.2) (by have := HW.out.2.2.2.2.2.2.1; simp; omega) (by simp)).mono ?_
  rintro e w3 ⟨rfl, b3⟩
  have ef : [ss].flatten = ss := by simp
  rw [ef]
  have hdl := digV_length k.d ss
  have H3 : Hid (Below w.heap.size w w3 ∧ (digV k.d ss).length = 16) := And.intro ((H2.out.1.alloc H2.out.1.size _).trans (b3.mono (by have := H2.out.1.size; simp; omega))) hdl
  have z3 : w.heap.size ≤ w3.heap.size := H3.out.1.size
  clear b3 ef hdl
  obtain ⟨D, eD⟩ : ∃ D, D = digV k.d ss := ⟨_, rfl⟩
  rw [← eD] at H3 ⊢
  have ED : Hid _ := eD
  clear eD
  go_wp2_with (first
    | (refine wpList_store_at rfl 54 (.tmp 7) (.tmp 24) rfl w3.heap.size _ rfl rfl 54 _ (MapKept.heap_alloc w3 _).1 (infoBs _ H3.out.2) (by simp [u8s_length, H3.out.2]) (u8s_all _) ?_; intro w4 h4 m4; have C4 : Hid (Below w.heap.size w w4) := (H3.out.1.alloc (by omega) _).trans (m4.below (by omega)); have R4 : Hid (Row w4 .u8 (.slice (some ⟨w3.heap.size, 0, none⟩) 5 16) (D.take 5)) := by show Row _ _ _ _; have := row_partc (off := 0) (n := 5) (c := 16) h4 (by rw [H3.out.2]; decide) (by decide) (by decide); rwa [List.drop_zero] at this)
    | (at_builtin; refine wpList_append_row rfl (.const _) (.tmp 25) rfl w4.heap.size (.slice none 0 0) 0 [] rfl (World.ownsRow_nil _ _ _ _) (.slice (some ⟨w3.heap.size, 0, none⟩) 5 16) (D.take 5) rfl R4.out (by rw [List.length_take, H3.out.2]; decide) (Nat.le_refl _) ?_; intro q5 w5 o5 g5))
  go_ret
  refine ⟨_, rfl, ?_, C4.out.trans ((grown_below g5).mono C4.out.size)⟩
  have e : headV k ss = D.take 5 := by rw [ED.out]; rfl
  rw [e]
  have := owns_mono o5 C4.out.size
  simpa using this
end Go.Proofs.Ytjachnpcplmdgaj
