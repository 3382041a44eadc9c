import Derived.Test.YtoebogcglcaikaaIPart
namespace Go.Proofs.Ytoebogcglcaikaa
open Go.RowKit
set_option linter.unusedVariables false

theorem nxtK_kok (k : K4) (h : kok k) : kok (nxtK k) :=
  ⟨next_len k h, der_len _ lKey 16 (next_len k h) (by decide) (by decide) (by decide), der_len _ lIv 8 (next_len k h) (by decide) (by decide) (by decide), h.2.2.2⟩
theorem next_splice (k : K4) (h : kok k) : splice (inL (keysV (derV k.a lNext 16))) 32 k.d = inL (nxtK k) := by
  have h16 := next_len k h
  have e : keysV (derV k.a lNext 16) = ⟨derV k.a lNext 16, derV (derV k.a lNext 16) lKey 16, derV (derV k.a lNext 16) lIv 8, derV (derV k.a lNext 16) lMask 16⟩ := if_pos h16
  have hb := der_len (derV k.a lNext 16) lKey 16 h16 (by decide) (by decide) (by decide)
  have hd := der_len (derV k.a lNext 16) lMask 16 h16 (by decide) (by decide) (by decide)
  have hk := h.2.2.2
  rw [e]
  unfold nxtK inL splice
  simp only
  generalize derV k.a lNext 16 = A at *
  generalize derV A lKey 16 = B at *
  generalize derV A lIv 8 = C at *
  have hb' : B.length = 16 := hb
  have eAB : (A ++ B).length = 32 := by rw [List.length_append, h16, hb']
  generalize derV A lMask 16 = D at *
  have hd' : D.length = 16 := hd
  have eABD : (A ++ B ++ D).length = 48 := by rw [List.length_append, eAB, hd']
  rw [hk, List.append_assoc (A ++ B) D C, List.take_left' eAB, ← List.append_assoc (A ++ B) D C, List.drop_left' eABD]
  simp [List.append_assoc]
abbrev K0 : Obj := .cells #[.slice none 0 0, .slice none 0 0, .slice none 0 0, .slice none 0 0] 24 (0, 0)

set_option maxRecDepth 20000 in
set_option maxHeartbeats 4000000 in
theorem inextKeys_bad (v : Value) (k : K4) (w : World) (hk : KRow w v k) (ho : ¬ kok k) :
    Calls Try.prog 10 #[v] w fun e w' => ∃ r, e = .returned r ∧ KOwns w' w.heap.size r kZero ∧ Below w.heap.size w w' := by
  obtain ⟨v0, v1, v2, v3, rfl, r0, r1, r2, r3⟩ := hk
  have C0 : Below w.heap.size w ((w.alloc (.cells #[v0, v1, v2, v3] 24)).alloc K0) := ((Below.refl _ _).alloc (Nat.le_refl _) _).alloc (by simp) _
  have C := innerOf_bad (.agg #[v0, v1, v2, v3]) k _ ⟨v0, v1, v2, v3, rfl, r0.below C0, r1.below C0, r2.below C0, r3.below C0⟩ ho
  have HW : Hid _ := And.intro C (And.intro C0 (book_new2 w (.cells #[v0, v1, v2, v3] 24) K0))
  clear r0 r1 r2 r3 C0 ho C
  go_enter Try.func10, Try.ntmps10
  go_wp2_with fail
  go_at_call 19
  refine HW.out.1.mono ?_
  rintro e w1 ⟨rfl, b1⟩
  have H1 : Hid _ := And.intro (HW.out.2.1.trans (b1.mono HW.out.2.1.size)) (HW.out.2.2.below b1)
  have z1 : w.heap.size + 1 < w1.heap.size := H1.out.2.lt (List.mem_cons_self ..)
  clear b1
  go_wp2_with (first
    | (refine wpList_store_at rfl 41 (.tmp 3) (.tmp 9) rfl w1.heap.size _ rfl rfl 41 _ (MapKept.heap_alloc w1 _).1 (infoIs _ (by simp)) (by simp [u8s_length]) (u8s_all _) ?_; intro w2 h2 m2)
    | (refine wpList_store_at rfl 24 (.tmp 2) (.tmp 13) rfl (w.heap.size + 1) _ rfl rfl 24 #[.slice none 0 0, .slice none 0 0, .slice none 0 0, .slice none 0 0] (((H1.out.2.below ((Below.refl _ _).alloc (Nat.le_refl _) _)).only m2 (by intro b o hm; simp only [List.mem_cons, Prod.mk.injEq, List.not_mem_nil, or_false] at hm; intro e; cases e; omega)).blk _ _ (List.mem_cons_self ..)) infoKeys4 rfl (by simp [Value.oneCell']) ?_; intro w3 h3 m3))
  try simp only [Exit.inBlock, Exit.then]
  refine bodyPost_ret (v := .agg #[.slice none 0 0, .slice none 0 0, .slice none 0 0, .slice none 0 0]) ?_ rfl ?_
  · exact results_cell_row (t := 24) rfl _ _ (w.heap.size + 1) _ (fr := (0, 0)) _ rfl h3 Try.underlying24 rfl infoKeys4
  · exact ⟨_, rfl, kzero_owns _ _, ((H1.out.1.alloc (by omega) _).trans (m2.below (by omega))).trans (m3.below (by omega))⟩

set_option maxRecDepth 20000 in
set_option maxHeartbeats 8000000 in
theorem inextKeys_ok (v : Value) (k : K4) (w : World) (hk : KRow w v k) (kb : k.bytes) (ho : kok k) :
    Calls Try.prog 10 #[v] w fun e w' => ∃ r, e = .returned r ∧ KOwns w' w.heap.size r (nxtK k) ∧ Below w.heap.size w w' := by
  obtain ⟨v0, v1, v2, v3, rfl, r0, r1, r2, r3⟩ := hk
  have C0 : Below w.heap.size w ((w.alloc (.cells #[v0, v1, v2, v3] 24)).alloc K0) := ((Below.refl _ _).alloc (Nat.le_refl _) _).alloc (by simp) _
  have C := innerOf_ok (.agg #[v0, v1, v2, v3]) k _ ⟨v0, v1, v2, v3, rfl, r0.below C0, r1.below C0, r2.below C0, r3.below C0⟩ ho
  have HW : Hid _ := And.intro C (And.intro C0 (And.intro (book_new2 w (.cells #[v0, v1, v2, v3] 24) K0) (And.intro ho kb)))
  clear r0 r1 r2 r3 C0 ho C kb
  have il := inL_length k HW.out.2.2.2.1
  have nl := next_len k HW.out.2.2.2.1
  obtain ⟨S, eS⟩ : ∃ S, S = derV k.a lNext 16 := ⟨_, rfl⟩
  have bS : Bytes S := by rw [eS]; exact derV_bytes _ _ _
  rw [← eS] at nl
  have kl := inL_length (keysV S) (keysV_kok S nl)
  have HL : Hid _ := And.intro il (And.intro kl (And.intro nl (And.intro eS bS)))
  clear il kl nl eS bS
  go_enter Try.func10, Try.ntmps10
  go_wp2_with fail
  go_at_call 19
  refine HW.out.1.mono ?_
  rintro e w1 ⟨rfl, b1⟩
  have H1 : Hid _ := And.intro (HW.out.2.1.trans (b1.mono HW.out.2.1.size)) (HW.out.2.2.1.below b1)
  have z1 : w.heap.size + 1 < w1.heap.size := H1.out.2.lt (List.mem_cons_self ..)
  clear b1
  go_wp2_with (refine wpList_store_at rfl 41 (.tmp 3) (.tmp 9) rfl w1.heap.size _ rfl rfl 41 _ (MapKept.heap_alloc w1 _).1 (infoIs _ HL.out.1) (by simp [u8s_length, HL.out.1]) (u8s_all _) ?_; intro w2 h2 m2)
  go_at_call 25
  have B2 : Book w2 [(w1.heap.size, .cells (u8s (inL k)).toArray 41 (0, 0)), (w.heap.size + 1, K0), (w.heap.size, .cells #[v0, v1, v2, v3] 24)] :=
    (H1.out.2.add _).turn m2 h2 (by intro b o hm; simp only [List.mem_cons, Prod.mk.injEq, List.not_mem_nil, or_false] at hm; omega)
  have C2 : Below w.heap.size w w2 := (H1.out.1.alloc (by omega) _).trans (m2.below (by omega))
  have H2 : Hid _ := And.intro C2 B2
  clear h2 m2 C2 B2
  refine (implDerive _ k.a lNext 16 w2 (inL_rows (H2.out.2.blk _ _ (List.mem_cons_self ..)) HW.out.2.2.2.1).1 HW.out.2.2.2.2.1 (by rw [HW.out.2.2.2.1.1]; decide) (by decide)).mono ?_
  rintro e w3 ⟨r, rfl, o3, b3⟩
  rw [← HL.out.2.2.2.1] at o3
  have H3 : Hid _ := And.intro (H2.out.1.trans (b3.mono H2.out.1.size)) (And.intro (H2.out.2.below b3) (row_of_owns o3))
  clear o3 b3
  go_wp2_with fail
  go_at_call 24
  refine (innerOfSecret_ok r S w3 H3.out.2.2 HL.out.2.2.2.2 HL.out.2.2.1).mono ?_
  rintro e w4 ⟨rfl, b4⟩
  have H4 : Hid _ := And.intro (H3.out.1.trans (b4.mono H3.out.1.size)) (H3.out.2.1.below b4)
  have z4 : w1.heap.size < w4.heap.size := H4.out.2.lt (List.mem_cons_self ..)
  clear b4
  go_wp2_with (first
    | (refine wpList_store_at rfl 41 (.tmp 5) (.tmp 17) rfl w4.heap.size _ rfl rfl 41 _ (MapKept.heap_alloc w4 _).1 (infoIs _ HL.out.2.1) (by simp [u8s_length, HL.out.2.1]) (u8s_all _) ?_; intro w5 h5 m5; have B5 : Hid (Book w5 [(w4.heap.size, .cells (u8s (inL (keysV S))).toArray 41 (0, 0)), (w1.heap.size, .cells (u8s (inL k)).toArray 41 (0, 0)), (w.heap.size + 1, K0), (w.heap.size, .cells #[v0, v1, v2, v3] 24)]) := (H4.out.2.add _).turn m5 h5 (by intro b o hm; simp only [List.mem_cons, Prod.mk.injEq, List.not_mem_nil, or_false] at hm; omega))
    | (refine wpList_load_part rfl 38 (.tmp 18) rfl w1.heap.size 32 16 rfl 41 (inL k) (0, 0) _ (B5.out.blk _ _ (List.mem_cons_of_mem _ (List.mem_cons_self ..))) (by rw [HL.out.1]; decide) Try.underlying38 rfl infoA16 k.d (inL_d k HW.out.2.2.2.1) ?_)
    | (refine wpList_store_part rfl 38 (.tmp 20) (.tmp 19) rfl w4.heap.size 32 16 k.d rfl rfl 41 (inL (keysV S)) (B5.out.blk _ _ (List.mem_cons_self ..)) infoA16 HW.out.2.2.2.1.2.2.2 (by rw [HL.out.2.1]; decide) ?_; intro w6 h6 m6)
    | (refine wpList_load_row rfl 41 (.tmp 5) rfl w4.heap.size rfl 41 (u8s (inL (nxtK k))).toArray (0, 0) _ (by rw [h6, HL.out.2.2.2.1, next_splice k HW.out.2.2.2.1]) Try.underlying41 rfl (infoIs _ (inL_length _ (nxtK_kok k HW.out.2.2.2.1))) ?_))
  go_at_call 26
  have H6 : Hid _ := And.intro (((H4.out.1.alloc (by omega) _).trans (m5.below (by omega))).trans (m6.below (by omega))) (B5.out.turn m6 h6 (by intro b o hm; simp only [List.mem_cons, Prod.mk.injEq, List.not_mem_nil, or_false] at hm; omega))
  clear h5 m5 h6 m6 B5
  have z6 : w4.heap.size < w6.heap.size := H6.out.2.lt (List.mem_cons_self ..)
  refine (outer_ok (nxtK k) w6 (nxtK_kok k HW.out.2.2.2.1)).mono ?_
  rintro e w7 ⟨r7, rfl, ko, b7⟩
  obtain ⟨a0, a1, a2, a3, p0, p1, p2, p3, er⟩ := ko.parts
  subst er
  have H7 : Hid _ := And.intro ko (And.intro b7 (H6.out.2.below b7))
  clear ko b7
  go_wp2_with (refine wpList_store_at rfl 24 (.tmp 2) (.tmp 22) rfl (w.heap.size + 1) _ rfl rfl 24 #[.slice none 0 0, .slice none 0 0, .slice none 0 0, .slice none 0 0] (H7.out.2.2.blk _ _ (List.mem_cons_of_mem _ (List.mem_cons_of_mem _ (List.mem_cons_self ..)))) infoKeys4 rfl (by simp [Value.oneCell']) ?_; intro w8 h8 m8)
  try simp only [Exit.inBlock, Exit.then]
  refine bodyPost_ret (v := .agg #[.slice a0 (nxtK k).a.length p0, .slice a1 (nxtK k).b.length p1, .slice a2 (nxtK k).c.length p2, .slice a3 (nxtK k).d.length p3]) ?_ rfl ?_
  · exact results_cell_row (t := 24) rfl _ _ (w.heap.size + 1) _ (fr := (0, 0)) _ rfl h8 Try.underlying24 rfl infoKeys4
  · refine ⟨_, rfl, ?_, (H6.out.1.trans (H7.out.2.1.mono (by omega))).trans (m8.below (by omega))⟩
    exact ((Chg.of_only (S := fun k => k = w.heap.size + 1) m8 (fun k e => by cases e; rfl)).kowns H7.out.1 (fun g hg _ e => by omega)).mono (by omega)
end Go.Proofs.Ytoebogcglcaikaa
