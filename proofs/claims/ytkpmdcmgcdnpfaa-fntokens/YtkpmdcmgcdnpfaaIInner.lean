import Derived.Test.YtkpmdcmgcdnpfaaIKeysOK
import Derived.Test.YtkpmdcmgcdnpfaaIDerive
import Derived.Test.YtkpmdcmgcdnpfaaKeysOf
namespace Go.Proofs.Ytkpmdcmgcdnpfaa
open Go.RowKit
set_option linter.unusedVariables false

/-- The inner keys, cell by cell: secret, key, mask, iv. -/
def inL (k : K4) : List Int := k.a ++ k.b ++ k.d ++ k.c
theorem inL_length (k : K4) (h : kok k) : (inL k).length = 56 := by
  obtain ⟨h0, h1, h2, h3⟩ := h
  simp [inL, h0, h1, h2, h3]
def inS (k : K4) : Nat → List Int
  | 0 => List.replicate 56 0
  | 1 => k.a ++ List.replicate 40 0
  | 2 => k.a ++ k.b ++ List.replicate 24 0
  | 3 => k.a ++ k.b ++ k.d ++ List.replicate 8 0
  | _ => inL k
theorem splice_fill (A X : List Int) (r off m : Nat) (hA : A.length = off) (hX : X.length = m) : splice (A ++ List.replicate (m + r) 0) off (X.take m) = A ++ X ++ List.replicate r 0 := by
  unfold splice
  rw [List.take_left' hA, List.take_of_length_le (Nat.le_of_eq hX), hX, List.drop_append, hA, List.drop_of_length_le (by omega)]
  simp [List.append_assoc, List.drop_replicate, show off + m - off = m by omega]
theorem inS_0 (k : K4) (h : kok k) : splice (inS k 0) 0 (k.a.take 16) = inS k 1 := by
  have := splice_fill [] k.a 40 0 16 rfl h.1
  simpa [inS] using this
theorem inS_1 (k : K4) (h : kok k) : splice (inS k 1) 16 (k.b.take 16) = inS k 2 := splice_fill k.a k.b 24 16 16 h.1 h.2.1
theorem inS_2 (k : K4) (h : kok k) : splice (inS k 2) 32 (k.d.take 16) = inS k 3 := splice_fill (k.a ++ k.b) k.d 8 32 16 (by simp [h.1, h.2.1]) h.2.2.2
theorem inS_3 (k : K4) (h : kok k) : splice (inS k 3) 48 (k.c.take 8) = inS k 4 := by
  have := splice_fill (k.a ++ k.b ++ k.d) k.c 0 48 8 (by simp [h.1, h.2.1, h.2.2.2]) h.2.2.1
  simpa [inS, inL] using this
theorem inS_length (k : K4) (h : kok k) (j : Nat) : (inS k j).length = 56 := by
  obtain ⟨h0, h1, h2, h3⟩ := h
  match j with
  | 0 => simp [inS]
  | 1 => simp [inS, h0]
  | 2 => simp [inS, h0, h1]
  | 3 => simp [inS, h0, h1, h3]
  | n + 4 => simp [inS, inL, h0, h1, h2, h3]
theorem infoI56 : (Try.prog.info? 55).map (·.size) = some 56 := by kernel_rfl
theorem infoIs (xs : List Int) (h : xs.length = 56) : (Try.prog.info? 55).map (·.size) = some (u8s xs).toArray.size := by rw [infoI56]; simp [u8s_length, h]
abbrev Z56 : Obj := .cells (u8s (List.replicate 56 0)).toArray 55 (0, 0)
theorem book_new3 (w : World) (o1 o2 o3 : Obj) : Book (((w.alloc o1).alloc o2).alloc o3) [(w.heap.size + 2, o3), (w.heap.size + 1, o2), (w.heap.size, o1)] := by
  obtain ⟨h1, h2, h3⟩ := bk_new3 w o1 o2 o3
  refine ⟨fun b o hm => ?_⟩
  simp only [List.mem_cons, Prod.mk.injEq, List.not_mem_nil, or_false] at hm
  rcases hm with ⟨rfl, rfl⟩ | ⟨rfl, rfl⟩ | ⟨rfl, rfl⟩
  · exact h3
  · exact h2
  · exact h1
theorem below3 (w : World) (o1 o2 o3 : Obj) : Below w.heap.size w (((w.alloc o1).alloc o2).alloc o3) := (((Below.refl _ _).alloc (Nat.le_refl _) _).alloc (by simp) _).alloc (by simp; omega) _

theorem results_row_tmp {P : Program} {fn : Func} {p q : Tmp} {ty : TypeId} (h : fn.results = #[.cell p ty, .tmp q]) (tmps : Array Value) (w : World) (g : Nat) (t : TypeId) (cs : Array Value) (fr : Nat × Nat) (d : TypeDesc) (u : Value)
    (hp : tmps.getD p undef = .pointer (some ⟨g, 0, none⟩)) (hq : tmps.getD q undef = u) (hg : w.heap[g]? = some (.cells cs t fr))
    (hu : P.underlying ty = some d) (hd : (match d with | .struct _ | .array _ _ => true | _ => false) = true) (hi : (P.info? ty).map (·.size) = some cs.size) :
    (results fn tmps).run P w = .ok (.tuple #[.agg cs, u]) w := by
  have hp' : tmps[p]?.getD undef = .pointer (some ⟨g, 0, none⟩) := by simpa using hp
  have hq' : tmps[q]?.getD undef = u := by simpa using hq
  simp [results, h, hp', hq', asAddr, run_loadVar_row w g t ty cs fr d hg hu hd hi]

set_option maxRecDepth 20000 in
set_option maxHeartbeats 4000000 in
theorem innerOf_bad (v : Value) (k : K4) (w : World) (hk : KRow w v k) (ho : ¬ kok k) :
    Calls Try.prog 33 #[v] w fun e w' => e = .returned (.tuple #[.agg (u8s (List.replicate 56 0)).toArray, .bool false]) ∧ Below w.heap.size w w' := by
  obtain ⟨v0, v1, v2, v3, rfl, r0, r1, r2, r3⟩ := hk
  obtain ⟨a0, p0, rfl⟩ := r0.form
  obtain ⟨a1, p1, rfl⟩ := r1.form
  obtain ⟨a2, p2, rfl⟩ := r2.form
  obtain ⟨a3, p3, rfl⟩ := r3.form
  obtain ⟨n0, e0⟩ : ∃ n, n = k.a.length := ⟨_, rfl⟩
  obtain ⟨n1, e1⟩ : ∃ n, n = k.b.length := ⟨_, rfl⟩
  obtain ⟨n2, e2⟩ : ∃ n, n = k.c.length := ⟨_, rfl⟩
  obtain ⟨n3, e3⟩ : ∃ n, n = k.d.length := ⟨_, rfl⟩
  rw [← e0] at r0 ⊢
  rw [← e1] at r1 ⊢
  rw [← e2] at r2 ⊢
  rw [← e3] at r3 ⊢
  have HH : Hid _ := And.intro r0 (And.intro r1 (And.intro r2 (And.intro r3 (And.intro ho (And.intro e0 (And.intro e1 (And.intro e2 e3)))))))
  have HK : Hid (∀ w' : World, Below w.heap.size w w' → KRow w' (.agg #[.slice a0 n0 p0, .slice a1 n1 p1, .slice a2 n2 p2, .slice a3 n3 p3]) k) := fun w' hb => ⟨_, _, _, _, rfl, r0.below hb, r1.below hb, r2.below hb, r3.below hb⟩
  clear r0 r1 r2 r3 ho e0 e1 e2 e3
  go_enter Try.func33, Try.ntmps33
  go_wp2_with fail
  go_at_call 47
  have B0 := book_new3 w (.cells #[.slice a0 n0 p0, .slice a1 n1 p1, .slice a2 n2 p2, .slice a3 n3 p3] 38) Z56 Z56
  have C0 := below3 w (.cells #[.slice a0 n0 p0, .slice a1 n1 p1, .slice a2 n2 p2, .slice a3 n3 p3] 38) Z56 Z56
  refine (ivk_false _ k _ (HK.out _ C0) HH.out.2.2.2.2.1).mono ?_
  rintro e w1 ⟨rfl, b1⟩
  have H1 : Hid _ := And.intro (B0.below b1) (C0.trans (b1.mono C0.size))
  clear B0 C0 b1
  go_wp2_with (first
    | (refine wpList_load_row rfl 55 (.tmp 4) rfl (w.heap.size + 2) rfl 55 _ (0, 0) _ (H1.out.1.blk _ _ (List.mem_cons_self ..)) Try.underlying55 rfl (infoIs _ (by simp)) ?_)
    | (refine wpList_store_at rfl 55 (.tmp 2) (.tmp 8) rfl (w.heap.size + 1) _ rfl rfl 55 _ (H1.out.1.blk _ _ (List.mem_cons_of_mem _ (List.mem_cons_self ..))) (infoIs _ (by simp)) (by simp [u8s_length]) (u8s_all _) ?_; intro w2 h2 n2))
  refine bodyPost_ret (v := .tuple #[.agg (u8s (List.replicate 56 0)).toArray, .bool false]) ?_ rfl ?_
  · exact results_row_tmp (t := 55) rfl _ _ (w.heap.size + 1) _ (fr := (0, 0)) _ _ rfl rfl h2 Try.underlying55 rfl (infoIs _ (by simp))
  · exact ⟨rfl, H1.out.2.trans (n2.below (by omega))⟩

/-- innerOf's blocks behind j parts. -/
abbrev BkI (h : Nat) (k : K4) (j : Nat) (a0 a1 a2 a3 : Option Addr) (p0 p1 p2 p3 n0 n1 n2 n3 : Nat) : List (Nat × Obj) :=
  [(h + 2, .cells (u8s (inS k j)).toArray 55 (0, 0)), (h + 1, Z56), (h, .cells #[.slice a0 n0 p0, .slice a1 n1 p1, .slice a2 n2 p2, .slice a3 n3 p3] 38 (0, 0))]

set_option maxRecDepth 20000 in
set_option maxHeartbeats 8000000 in
theorem innerOf_ok (v : Value) (k : K4) (w : World) (hk : KRow w v k) (ho : kok k) :
    Calls Try.prog 33 #[v] w fun e w' => e = .returned (.tuple #[.agg (u8s (inL k)).toArray, .bool true]) ∧ Below w.heap.size w w' := by
  obtain ⟨v0, v1, v2, v3, rfl, r0, r1, r2, r3⟩ := hk
  obtain ⟨a0, p0, rfl⟩ := r0.form
  obtain ⟨a1, p1, rfl⟩ := r1.form
  obtain ⟨a2, p2, rfl⟩ := r2.form
  obtain ⟨a3, p3, rfl⟩ := r3.form
  obtain ⟨n0, e0⟩ : ∃ n, n = k.a.length := ⟨_, rfl⟩
  obtain ⟨n1, e1⟩ : ∃ n, n = k.b.length := ⟨_, rfl⟩
  obtain ⟨n2, e2⟩ : ∃ n, n = k.c.length := ⟨_, rfl⟩
  obtain ⟨n3, e3⟩ : ∃ n, n = k.d.length := ⟨_, rfl⟩
  rw [← e0] at r0 ⊢
  rw [← e1] at r1 ⊢
  rw [← e2] at r2 ⊢
  rw [← e3] at r3 ⊢
  have HH : Hid _ := And.intro r0 (And.intro r1 (And.intro r2 (And.intro r3 (And.intro ho (And.intro e0 (And.intro e1 (And.intro e2 e3)))))))
  have HK : Hid (∀ w' : World, Below w.heap.size w w' → KRow w' (.agg #[.slice a0 n0 p0, .slice a1 n1 p1, .slice a2 n2 p2, .slice a3 n3 p3]) k) := fun w' hb => ⟨_, _, _, _, rfl, r0.below hb, r1.below hb, r2.below hb, r3.below hb⟩
  clear r0 r1 r2 r3 ho e0 e1 e2 e3
  go_enter Try.func33, Try.ntmps33
  go_wp2_with fail
  go_at_call 47
  have B0 : Book _ (BkI w.heap.size k 0 a0 a1 a2 a3 p0 p1 p2 p3 n0 n1 n2 n3) := book_new3 w (.cells #[.slice a0 n0 p0, .slice a1 n1 p1, .slice a2 n2 p2, .slice a3 n3 p3] 38) Z56 Z56
  have C0 := below3 w (.cells #[.slice a0 n0 p0, .slice a1 n1 p1, .slice a2 n2 p2, .slice a3 n3 p3] 38) Z56 Z56
  refine (ivk_true _ k _ (HK.out _ C0) HH.out.2.2.2.2.1).mono ?_
  rintro e w1 ⟨rfl, b1⟩
  have H1 : Hid _ := And.intro (B0.below b1) (C0.trans (b1.mono C0.size))
  have z1 : w.heap.size + 2 < w1.heap.size := (B0.below b1).lt (List.mem_cons_self ..)
  clear B0 C0 b1
  obtain ⟨c0, c1, c2, c3⟩ := H1.out.1.c4 (b := w.heap.size) (x0 := .slice a0 n0 p0) (x1 := .slice a1 n1 p1) (x2 := .slice a2 n2 p2) (x3 := .slice a3 n3 p3) (t := 38) (List.mem_cons_of_mem _ (List.mem_cons_of_mem _ (List.mem_cons_self ..)))
  have g0 : (inS k 0).length = 56 := inS_length k HH.out.2.2.2.2.1 0
  have GL : Hid _ := And.intro g0 (show k.a.length = 16 from HH.out.2.2.2.2.1.1)
  clear g0
  go_upto_region 4 with fail
  go_region_law (refine step_copy_at rfl (.tmp 10) (.tmp 12) 22 22 rfl 5 Try.underlying22 infoU8s (w.heap.size + 2) 0 16 16 _ rfl rfl k.a ((HH.out.1.below H1.out.2).drewN 1) (by rw [GL.out.2]; decide) (inS k 0) 55 (H1.out.1.drew.blk _ _ (List.mem_cons_self ..)) 16 (by rw [GL.out.2]; rfl) (by rw [GL.out.1]; decide) ?_; intro w2 h2 m2)
  rw [inS_0 k HH.out.2.2.2.2.1] at h2
  have H2 : Hid (Book w2 (BkI w.heap.size k (0 + 1) a0 a1 a2 a3 p0 p1 p2 p3 n0 n1 n2 n3) ∧ Below w.heap.size w w2) :=
    And.intro (H1.out.1.drew.turn m2 h2 (by intro b o hm; simp only [List.mem_cons, Prod.mk.injEq, List.not_mem_nil, or_false] at hm; omega)) ((below_drewN H1.out.2 1).trans (m2.below (by omega)))
  clear h2 m2 c0 c1 c2 c3 GL
  obtain ⟨c0, c1, c2, c3⟩ := H2.out.1.c4 (b := w.heap.size) (x0 := .slice a0 n0 p0) (x1 := .slice a1 n1 p1) (x2 := .slice a2 n2 p2) (x3 := .slice a3 n3 p3) (t := 38) (List.mem_cons_of_mem _ (List.mem_cons_of_mem _ (List.mem_cons_self ..)))
  have g1 : (inS k 1).length = 56 := inS_length k HH.out.2.2.2.2.1 1
  have GL : Hid _ := And.intro g1 (show k.b.length = 16 from HH.out.2.2.2.2.1.2.1)
  clear g1
  go_upto_region 5 with fail
  go_region_law (refine step_copy_at rfl (.tmp 15) (.tmp 17) 22 22 rfl 5 Try.underlying22 infoU8s (w.heap.size + 2) 16 16 16 _ rfl rfl k.b ((HH.out.2.1.below H2.out.2).drewN 1) (by rw [GL.out.2]; decide) (inS k 1) 55 (H2.out.1.drew.blk _ _ (List.mem_cons_self ..)) 16 (by rw [GL.out.2]; rfl) (by rw [GL.out.1]; decide) ?_; intro w3 h3 m3)
  rw [inS_1 k HH.out.2.2.2.2.1] at h3
  have H3 : Hid (Book w3 (BkI w.heap.size k (1 + 1) a0 a1 a2 a3 p0 p1 p2 p3 n0 n1 n2 n3) ∧ Below w.heap.size w w3) :=
    And.intro (H2.out.1.drew.turn m3 h3 (by intro b o hm; simp only [List.mem_cons, Prod.mk.injEq, List.not_mem_nil, or_false] at hm; omega)) ((below_drewN H2.out.2 1).trans (m3.below (by omega)))
  clear h3 m3 c0 c1 c2 c3 GL
  obtain ⟨c0, c1, c2, c3⟩ := H3.out.1.c4 (b := w.heap.size) (x0 := .slice a0 n0 p0) (x1 := .slice a1 n1 p1) (x2 := .slice a2 n2 p2) (x3 := .slice a3 n3 p3) (t := 38) (List.mem_cons_of_mem _ (List.mem_cons_of_mem _ (List.mem_cons_self ..)))
  have g2 : (inS k 2).length = 56 := inS_length k HH.out.2.2.2.2.1 2
  have GL : Hid _ := And.intro g2 (show k.d.length = 16 from HH.out.2.2.2.2.1.2.2.2)
  clear g2
  go_upto_region 6 with fail
  go_region_law (refine step_copy_at rfl (.tmp 20) (.tmp 22) 22 22 rfl 5 Try.underlying22 infoU8s (w.heap.size + 2) 32 16 16 _ rfl rfl k.d ((HH.out.2.2.2.1.below H3.out.2).drewN 1) (by rw [GL.out.2]; decide) (inS k 2) 55 (H3.out.1.drew.blk _ _ (List.mem_cons_self ..)) 16 (by rw [GL.out.2]; rfl) (by rw [GL.out.1]; decide) ?_; intro w4 h4 m4)
  rw [inS_2 k HH.out.2.2.2.2.1] at h4
  have H4 : Hid (Book w4 (BkI w.heap.size k (2 + 1) a0 a1 a2 a3 p0 p1 p2 p3 n0 n1 n2 n3) ∧ Below w.heap.size w w4) :=
    And.intro (H3.out.1.drew.turn m4 h4 (by intro b o hm; simp only [List.mem_cons, Prod.mk.injEq, List.not_mem_nil, or_false] at hm; omega)) ((below_drewN H3.out.2 1).trans (m4.below (by omega)))
  clear h4 m4 c0 c1 c2 c3 GL
  obtain ⟨c0, c1, c2, c3⟩ := H4.out.1.c4 (b := w.heap.size) (x0 := .slice a0 n0 p0) (x1 := .slice a1 n1 p1) (x2 := .slice a2 n2 p2) (x3 := .slice a3 n3 p3) (t := 38) (List.mem_cons_of_mem _ (List.mem_cons_of_mem _ (List.mem_cons_self ..)))
  have g3 : (inS k 3).length = 56 := inS_length k HH.out.2.2.2.2.1 3
  have GL : Hid _ := And.intro g3 (show k.c.length = 8 from HH.out.2.2.2.2.1.2.2.1)
  clear g3
  go_upto_region 7 with fail
  go_region_law (refine step_copy_at rfl (.tmp 25) (.tmp 27) 22 22 rfl 5 Try.underlying22 infoU8s (w.heap.size + 2) 48 8 8 _ rfl rfl k.c ((HH.out.2.2.1.below H4.out.2).drewN 1) (by rw [GL.out.2]; decide) (inS k 3) 55 (H4.out.1.drew.blk _ _ (List.mem_cons_self ..)) 8 (by rw [GL.out.2]; rfl) (by rw [GL.out.1]; decide) ?_; intro w5 h5 m5)
  rw [inS_3 k HH.out.2.2.2.2.1] at h5
  have H5 : Hid (Book w5 (BkI w.heap.size k (3 + 1) a0 a1 a2 a3 p0 p1 p2 p3 n0 n1 n2 n3) ∧ Below w.heap.size w w5) :=
    And.intro (H4.out.1.drew.turn m5 h5 (by intro b o hm; simp only [List.mem_cons, Prod.mk.injEq, List.not_mem_nil, or_false] at hm; omega)) ((below_drewN H4.out.2 1).trans (m5.below (by omega)))
  clear h5 m5 c0 c1 c2 c3 GL
  go_wp2_with (first
    | (refine wpList_load_row rfl 55 (.tmp 4) rfl (w.heap.size + 2) rfl 55 _ (0, 0) _ (H5.out.1.blk _ _ (List.mem_cons_self ..)) Try.underlying55 rfl (infoIs _ (inS_length k HH.out.2.2.2.2.1 4)) ?_)
    | (refine wpList_store_at rfl 55 (.tmp 2) (.tmp 29) rfl (w.heap.size + 1) _ rfl rfl 55 _ (H5.out.1.blk _ _ (List.mem_cons_of_mem _ (List.mem_cons_self ..))) (infoIs _ (inS_length k HH.out.2.2.2.2.1 4)) (by simp [u8s_length, inS_length k HH.out.2.2.2.2.1 4]) (u8s_all _) ?_; intro w6 h6 m6))
  refine bodyPost_ret (v := .tuple #[.agg (u8s (inL k)).toArray, .bool true]) ?_ rfl ?_
  · exact results_row_tmp (t := 55) rfl _ _ (w.heap.size + 1) _ (fr := (0, 0)) _ _ rfl rfl h6 Try.underlying55 rfl (infoIs _ (inS_length k HH.out.2.2.2.2.1 4))
  · exact ⟨rfl, H5.out.2.trans (m6.below (by omega))⟩
end Go.Proofs.Ytkpmdcmgcdnpfaa
