import Derived.Test.YtkpmdcmgcdnpfaaICover
import Derived.Test.YtkpmdcmgcdnpfaaITag
namespace Go.Proofs.Ytkpmdcmgcdnpfaa
open Go.RowKit
set_option linter.unusedVariables false

theorem vnum_ok (num : Int) (w : World) (h0 : 0 ≤ num) (h1 : num ≤ 4611686018427387903) : Calls Try.prog 34 #[.int .i64 num] w fun e w' => e = .returned (.bool true) ∧ w' = w := by
  go_enter Try.func34, Try.ntmps34
  go_wp2
  go_ret
  exact ⟨rfl, rfl⟩
theorem vnum_low (num : Int) (w : World) (h0 : num < 0) : Calls Try.prog 34 #[.int .i64 num] w fun e w' => e = .returned (.bool false) ∧ w' = w := by
  go_enter Try.func34, Try.ntmps34
  go_wp2
  go_ret
  exact ⟨rfl, rfl⟩
theorem vnum_high (num : Int) (w : World) (h0 : 0 ≤ num) (h1 : 4611686018427387903 < num) : Calls Try.prog 34 #[.int .i64 num] w fun e w' => e = .returned (.bool false) ∧ w' = w := by
  go_enter Try.func34, Try.ntmps34
  go_wp2
  go_ret
  refine ⟨?_, rfl⟩
  simp
  omega
theorem vnum_bad (num : Int) (w : World) (h : num < 0 ∨ 4611686018427387903 < num) : Calls Try.prog 34 #[.int .i64 num] w fun e w' => e = .returned (.bool false) ∧ w' = w := by
  by_cases h0 : num < 0
  · exact vnum_low num w h0
  · exact vnum_high num w (by omega) (by omega)

set_option maxRecDepth 20000 in
set_option maxHeartbeats 4000000 in
theorem iseal_badkey (v hv bv : Value) (k : K4) (num : Int) (w : World) (hk : KRow w v k) (ho : ¬ kok k) :
    Calls Try.prog 16 #[v, .int .i64 num, hv, bv] w fun e w' => ∃ r, e = .returned (.tuple #[r, .int .i64 1]) ∧ w'.ownsRow w.heap.size 5 1 r 0 (([] : List Int).map (Value.int .u8)) ∧ Below w.heap.size w w' := by
  obtain ⟨v0, v1, v2, v3, rfl, r0, r1, r2, r3⟩ := id hk
  have C0 : Below w.heap.size w (w.alloc (.cells #[v0, v1, v2, v3] 38)) := (Below.refl _ _).alloc (Nat.le_refl _) _
  have HW : Hid _ := And.intro (innerOf_bad _ k _ (hk.below C0) ho) (And.intro C0 True.intro)
  clear r0 r1 r2 r3 C0 ho hk
  go_enter Try.func16, Try.ntmps16
  go_wp2_with fail
  go_at_call 33
  refine HW.out.1.mono ?_
  rintro e w1 ⟨rfl, b1⟩
  have H1 : Hid _ := And.intro (HW.out.2.1.trans (b1.mono HW.out.2.1.size)) True.intro
  have z1 : w.heap.size ≤ w1.heap.size := H1.out.1.size
  clear b1
  go_wp2_with (refine wpList_store_at rfl 55 (.tmp 10) (.tmp 18) rfl w1.heap.size _ rfl rfl 55 _ (MapKept.heap_alloc w1 _).1 (infoIs _ (by simp)) (by simp [u8s_length]) (u8s_all _) ?_; intro w2 h2 m2)
  go_ret2
  exact ⟨_, rfl, World.ownsRow_nil _ _ _ _, (H1.out.1.alloc (by omega) _).trans (m2.below (by omega))⟩

set_option maxRecDepth 20000 in
set_option maxHeartbeats 4000000 in
theorem iseal_badnum (v hv bv : Value) (k : K4) (num : Int) (w : World) (hk : KRow w v k) (ho : kok k) (hn : num < 0 ∨ 4611686018427387903 < num) :
    Calls Try.prog 16 #[v, .int .i64 num, hv, bv] w fun e w' => ∃ r, e = .returned (.tuple #[r, .int .i64 1]) ∧ w'.ownsRow w.heap.size 5 1 r 0 (([] : List Int).map (Value.int .u8)) ∧ Below w.heap.size w w' := by
  obtain ⟨v0, v1, v2, v3, rfl, r0, r1, r2, r3⟩ := id hk
  have C0 : Below w.heap.size w (w.alloc (.cells #[v0, v1, v2, v3] 38)) := (Below.refl _ _).alloc (Nat.le_refl _) _
  have HW : Hid _ := And.intro (innerOf_ok _ k _ (hk.below C0) ho) (And.intro C0 (inL_length k ho))
  clear r0 r1 r2 r3 C0 ho hk
  go_enter Try.func16, Try.ntmps16
  go_wp2_with fail
  go_at_call 33
  refine HW.out.1.mono ?_
  rintro e w1 ⟨rfl, b1⟩
  have H1 : Hid _ := And.intro (HW.out.2.1.trans (b1.mono HW.out.2.1.size)) True.intro
  have z1 : w.heap.size ≤ w1.heap.size := H1.out.1.size
  clear b1
  go_wp2_with (first
    | (refine wpList_store_at rfl 55 (.tmp 10) (.tmp 18) rfl w1.heap.size _ rfl rfl 55 _ (MapKept.heap_alloc w1 _).1 (infoIs _ HW.out.2.2) (by simp [u8s_length, HW.out.2.2]) (u8s_all _) ?_; intro w2 h2 m2)
    | (go_at_call 34; refine (vnum_bad num _ hn).mono ?_; rintro e w' ⟨rfl, hw⟩; subst w'))
  go_ret2
  exact ⟨_, rfl, World.ownsRow_nil _ _ _ _, (H1.out.1.alloc (by omega) _).trans (m2.below (by omega))⟩

set_option maxRecDepth 20000 in
set_option maxHeartbeats 4000000 in
theorem iseal_long (v : Value) (ah ab : Option Addr) (nh nb ph pb : Nat) (k : K4) (num : Int) (w : World) (hk : KRow w v k) (ho : kok k) (h0 : 0 ≤ num) (h1 : num ≤ 4611686018427387903) (hl : 1500 < nh + nb) (hh : nh ≤ 1099511627776) (hbb : nb ≤ 1099511627776) :
    Calls Try.prog 16 #[v, .int .i64 num, .slice ah nh ph, .slice ab nb pb] w fun e w' => ∃ r, e = .returned (.tuple #[r, .int .i64 4]) ∧ w'.ownsRow w.heap.size 5 1 r 0 (([] : List Int).map (Value.int .u8)) ∧ Below w.heap.size w w' := by
  obtain ⟨v0, v1, v2, v3, rfl, r0, r1, r2, r3⟩ := id hk
  have C0 : Below w.heap.size w (w.alloc (.cells #[v0, v1, v2, v3] 38)) := (Below.refl _ _).alloc (Nat.le_refl _) _
  have HW : Hid _ := And.intro (innerOf_ok _ k _ (hk.below C0) ho) (And.intro C0 (inL_length k ho))
  clear r0 r1 r2 r3 C0 ho hk
  go_enter Try.func16, Try.ntmps16
  go_wp2_with fail
  go_at_call 33
  refine HW.out.1.mono ?_
  rintro e w1 ⟨rfl, b1⟩
  have H1 : Hid _ := And.intro (HW.out.2.1.trans (b1.mono HW.out.2.1.size)) True.intro
  have z1 : w.heap.size ≤ w1.heap.size := H1.out.1.size
  clear b1
  go_wp2_with (first
    | (refine wpList_store_at rfl 55 (.tmp 10) (.tmp 18) rfl w1.heap.size _ rfl rfl 55 _ (MapKept.heap_alloc w1 _).1 (infoIs _ HW.out.2.2) (by simp [u8s_length, HW.out.2.2]) (u8s_all _) ?_; intro w2 h2 m2)
    | (go_at_call 34; refine (vnum_ok num _ h0 h1).mono ?_; rintro e w' ⟨rfl, hw⟩; subst w'))
  go_ret2
  exact ⟨_, rfl, World.ownsRow_nil _ _ _ _, (H1.out.1.alloc (by omega) _).trans (m2.below (by omega))⟩

set_option maxRecDepth 20000 in
set_option maxHeartbeats 8000000 in
theorem iseal_ok (v : Value) (ah ab : Option Addr) (ph pb : Nat) (k : K4) (num : Int) (hd bd : List Int) (w : World) (hk : KRow w v k) (kb : k.bytes) (ho : kok k) (h0 : 0 ≤ num) (h1 : num ≤ 4611686018427387903) (hl : hd.length + bd.length ≤ 1500)
    (hh : Row w .u8 (.slice ah hd.length ph) hd) (hbd : Row w .u8 (.slice ab bd.length pb) bd) (bh : Bytes hd) (bb : Bytes bd) :
    Calls Try.prog 16 #[v, .int .i64 num, .slice ah hd.length ph, .slice ab bd.length pb] w fun e w' => ∃ r, e = .returned (.tuple #[r, .int .i64 0]) ∧ w'.ownsRow w.heap.size 5 1 r (sealV k num hd bd).length ((sealV k num hd bd).map (Value.int .u8)) ∧ Below w.heap.size w w' := by
  obtain ⟨v0, v1, v2, v3, rfl, r0, r1, r2, r3⟩ := id hk
  have C0 : Below w.heap.size w (w.alloc (.cells #[v0, v1, v2, v3] 38)) := (Below.refl _ _).alloc (Nat.le_refl _) _
  obtain ⟨nh, enh⟩ : ∃ n, n = hd.length := ⟨_, rfl⟩
  obtain ⟨nb, enb⟩ : ∃ n, n = bd.length := ⟨_, rfl⟩
  have ln : (nonV k num).length = 8 := by rw [nonV_length]; exact ho.2.2.1
  have lp : (k.b ++ nonV k num).length = 24 := by rw [List.length_append, ln, ho.2.1]
  have HW : Hid _ := And.intro (innerOf_ok _ k _ (hk.below C0) ho) (And.intro C0 (And.intro (inL_length k ho) (And.intro ho (And.intro kb (And.intro (And.intro hh hbd) (And.intro (And.intro bh bb) (And.intro (And.intro enh enb) (And.intro ln lp))))))))
  rw [← enh, ← enb] at hl ⊢
  clear r0 r1 r2 r3 C0 ho hk kb hh hbd bh bb enh enb ln lp
  go_enter Try.func16, Try.ntmps16
  go_wp2_with fail
  go_at_call 33
  refine HW.out.1.mono ?_
  rintro e w1 ⟨rfl, b1⟩
  have H1 : Hid _ := And.intro (HW.out.2.1.trans (b1.mono HW.out.2.1.size)) True.intro
  have z1 : w.heap.size ≤ w1.heap.size := H1.out.1.size
  clear b1
  go_wp2_with (first
    | (refine wpList_store_at rfl 55 (.tmp 10) (.tmp 18) rfl w1.heap.size _ rfl rfl 55 _ (MapKept.heap_alloc w1 _).1 (infoIs _ HW.out.2.2.1) (by simp [u8s_length, HW.out.2.2.1]) (u8s_all _) ?_; intro w2 h2 m2)
    | (go_at_call 34; refine (vnum_ok num _ h0 h1).mono ?_; rintro e w' ⟨rfl, hw⟩; subst w')
    | (refine wpList_load_row rfl 55 (.tmp 10) rfl w1.heap.size rfl 55 _ (0, 0) _ h2 Try.underlying55 rfl (infoIs _ HW.out.2.2.1) ?_))
  go_at_call 35
  have C2 : Hid (Below w.heap.size w w2) := (H1.out.1.alloc (by omega) _).trans (m2.below (by omega))
  clear h2 m2
  refine (packet_ok k num w2 HW.out.2.2.2.1 h0 h1).mono ?_
  rintro e w3 ⟨rfl, b3⟩
  have C3 : Hid (Below w.heap.size w w3) := C2.out.trans (b3.mono C2.out.size)
  have z3 : w.heap.size ≤ w3.heap.size := C3.out.size
  clear b3
  go_wp2_with (first
    | (refine wpList_store_at rfl 59 (.tmp 12) (.tmp 35) rfl w3.heap.size _ rfl rfl 59 _ (MapKept.heap_alloc w3 _).1 (infoPs _ HW.out.2.2.2.2.2.2.2.2.2) (by simp [u8s_length, HW.out.2.2.2.2.2.2.2.2.2]) (u8s_all _) ?_; intro w4 h4 m4)
    | (refine wpList_load_row rfl 59 (.tmp 12) rfl w3.heap.size rfl 59 _ (0, 0) _ h4 Try.underlying59 rfl (infoPs _ HW.out.2.2.2.2.2.2.2.2.2) ?_))
  go_at_call 36
  have H4 : Hid _ := And.intro ((C3.out.alloc (by omega) _).trans (m4.below (by omega))) h4
  have hlt4 : w3.heap.size < w4.heap.size := (Array.getElem?_eq_some_iff.1 h4).1
  clear h4 m4
  refine (cover_ok k.b (nonV k num) bd _ w4 (by rw [HW.out.2.2.2.2.2.2.2.1.2]; exact HW.out.2.2.2.2.2.1.2.below H4.out.1) HW.out.2.2.2.2.2.2.1.2 HW.out.2.2.2.1.2.1 HW.out.2.2.2.2.2.2.2.2.1 HW.out.2.2.2.2.1.2.1 (xl_bytes _ _ _) (by have := HW.out.2.2.2.2.2.2.2.1.2; omega)).mono ?_
  rintro e w5 ⟨r5, rfl, o5, b5⟩
  obtain ⟨a5, p5, er5⟩ := (row_of_owns o5).form
  subst er5
  have eo : xl bd (sblk k.b (nonV k num) ((bd.length + 15) / 16)) bd.length = overV k num bd := rfl
  rw [eo] at o5
  have z4 : w.heap.size ≤ w4.heap.size := H4.out.1.size
  have H5 : Hid _ := And.intro o5 (And.intro (H4.out.1.trans (b5.mono H4.out.1.size)) ((b5.block _ hlt4).trans H4.out.2))
  have hlx : (xl bd (sblk k.b (nonV k num) ((bd.length + 15) / 16)) bd.length).length = nb := by rw [xl_length]; exact HW.out.2.2.2.2.2.2.2.1.2.symm
  rw [hlx]
  have hlt4' : w4.heap.size < w5.heap.size + 1 := Nat.lt_succ_of_le b5.size
  clear o5 b5 eo hlx
  go_wp2_with (refine wpList_load_row rfl 59 (.tmp 12) rfl w3.heap.size rfl 59 _ (0, 0) _ H5.out.2.2 Try.underlying59 rfl (infoPs _ HW.out.2.2.2.2.2.2.2.2.2) ?_)
  go_at_call 37
  refine (tag_ok k.b (nonV k num) hd (overV k num bd) _ _ w5 (by rw [HW.out.2.2.2.2.2.2.2.1.1]; exact HW.out.2.2.2.2.2.1.1.below H5.out.2.1) (by have := row_of_owns H5.out.1; rwa [overV_length, ← HW.out.2.2.2.2.2.2.2.1.2] at this) HW.out.2.2.2.1.2.1 HW.out.2.2.2.2.2.2.2.2.1 HW.out.2.2.2.2.1.2.1 (xl_bytes _ _ _) HW.out.2.2.2.2.2.2.1.1 (xl_bytes _ _ _) (by have := HW.out.2.2.2.2.2.2.2.1.1; omega) (by rw [overV_length]; have := HW.out.2.2.2.2.2.2.2.1.2; omega)).mono ?_
  rintro e w6 ⟨rfl, b6⟩
  have z6 : w4.heap.size ≤ w6.heap.size := Nat.le_trans (Nat.le_of_lt_succ hlt4') b6.size
  have ht := tagV_length k.b (nonV k num) hd (overV k num bd)
  obtain ⟨T, eT⟩ : ∃ T, T = tagV k.b (nonV k num) hd (overV k num bd) := ⟨_, rfl⟩
  rw [← eT] at ht ⊢
  have o6 : w6.ownsRow w4.heap.size 5 1 (.slice a5 nb p5) nb ((overV k num bd).map (Value.int .u8)) := by
    have := owns_below H5.out.1 b6
    rwa [overV_length, ← HW.out.2.2.2.2.2.2.2.1.2] at this
  have H6 : Hid _ := And.intro o6 (And.intro (H5.out.2.1.trans (b6.mono H5.out.2.1.size)) (And.intro ht eT))
  clear b6 o6 ht eT
  go_wp2_with (first
    | (refine wpList_store_at rfl 53 (.tmp 14) (.tmp 42) rfl w6.heap.size _ rfl rfl 53 _ (MapKept.heap_alloc w6 _).1 (infoT8s _ H6.out.2.2.1) (by simp [u8s_length, H6.out.2.2.1]) (u8s_all _) ?_; intro w7 h7 m7
       have C7 : Hid (Below w.heap.size w w7) := (H6.out.2.1.alloc H6.out.2.1.size _).trans (m7.below H6.out.2.1.size)
       have o7 : Hid (w7.ownsRow w4.heap.size 5 1 (.slice a5 nb p5) nb ((overV k num bd).map (Value.int .u8))) := by
         refine m7.owns (owns_below H6.out.1 ((Below.refl _ _).alloc (Nat.le_refl _) _)) (fun q hq e => ?_)
         have := (H6.out.1.lt q hq).2
         have := Option.some.inj e
         omega
       have R7 : Hid (Row w7 .u8 (.slice (some ⟨w6.heap.size, 0, none⟩) 8 8) T) := row_full h7 H6.out.2.2.1 (by decide))
    | (at_builtin; refine wpList_append_row rfl (.tmp 43) (.tmp 44) rfl w4.heap.size (.slice a5 nb p5) nb (overV k num bd) rfl o7.out (.slice (some ⟨w6.heap.size, 0, none⟩) 8 8) T rfl R7.out (by rw [H6.out.2.2.1]; omega) (Nat.le_trans z6 (by have := C7.out.size; have := (Array.getElem?_eq_some_iff.1 h7).1; omega)) ?_; intro q8 w8 o8 g8))
  go_ret2
  have es : sealV k num hd bd = overV k num bd ++ T := by rw [H6.out.2.2.2]; rfl
  have el : (sealV k num hd bd).length = nb + T.length := by rw [es, List.length_append, overV_length, ← HW.out.2.2.2.2.2.2.2.1.2]
  refine ⟨_, rfl, ?_, C7.out.grown g8 C7.out.size (fun j hj => Nat.le_trans z4 (o7.out.lt j hj).1)⟩
  rw [el, es]
  exact owns_mono o8 z4
end Go.Proofs.Ytkpmdcmgcdnpfaa
