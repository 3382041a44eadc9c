import Derived.Test.YtgifbpongpbjaaaDoorStI
namespace Go.Proofs.YtgifbpongpbjaaaDoor
open Go.RowKit
set_option linter.unusedVariables false

theorem rgB.below {w w' : World} {c : Nat} {L : List (Bool × Int)} (h : rgB w c L) (hb : Below w.heap.size w w') : rgB w' c L := (hb.block c (Array.getElem?_eq_some_iff.1 h).1).trans h
theorem rgB.only {w w' : World} {c g : Nat} {L : List (Bool × Int)} (h : rgB w c L) (ho : Only (some g) w w') (hne : c ≠ g) : rgB w' c L := (ho.5 c (by simpa using hne)).trans h
/-- What is given of the ring, and what is left. -/
def shO (L : List (Bool × Int)) (r n ah : Nat) : List (Bool × Int) := cpL (cpL (List.replicate n (false, 0)) L 0 r ah) L ah 0 (n - ah)
def shL (L : List (Bool × Int)) (r n ah : Nat) : List (Bool × Int) := clL (clL L r ah) 0 (n - ah)
theorem cpL_length (O L : List (Bool × Int)) (q r m : Nat) (hr : r + m ≤ L.length) (hq : q + m ≤ O.length) : (cpL O L q r m).length = O.length := by
  unfold cpL
  simp only [List.length_append, List.length_take, List.length_drop]
  omega
theorem clL_length (L : List (Bool × Int)) (r m : Nat) (hr : r + m ≤ L.length) : (clL L r m).length = L.length := by
  unfold clL
  simp only [List.length_append, List.length_take, List.length_drop, List.length_replicate]
  omega
theorem Only.cellS {g : Nat} {w w' : World} (h : Only (some g) w w') {b : Nat} (hb : b ≠ g) (o : Nat) : w'.cell? ⟨b, o, none⟩ = w.cell? ⟨b, o, none⟩ := by
  have := h.5 b (by simpa using hb)
  simp only [World.cell?, this]
theorem Only.belowS {g : Nat} {w w' : World} (h : Only (some g) w w') {B : Nat} (hB : B ≤ g) : Below B w w' :=
  ⟨h.1, h.2, h.3, by have := h.4; omega, fun k hk => h.5 k (by simp; omega)⟩
set_option maxRecDepth 20000 in
set_option maxHeartbeats 2000000 in
theorem shiftI (g o c win first n r ah : Nat) (L : List (Bool × Int)) (w : World) (hc : w.cell? ⟨g, o, none⟩ = some (.slice (some ⟨c, 0, none⟩) win win)) (hf : w.cell? ⟨g, o + 1, none⟩ = some (.int .i64 (first : Int))) (hfr : w.frozen? ⟨g, o + 1, none⟩ = false)
    (hrg : rgB w c L) (hL : L.length = win) (hw : 0 < win) (hwm : win ≤ 16384) (hn : n ≤ win) (hfi : first ≤ 1000000) (hgc : g ≠ c) (hgl : g < w.heap.size) (er : r = first % win) (ea : ah = min n (win - r)) :
    Calls Tryd.prog 18 #[.pointer (some ⟨g, o, none⟩), .int .i64 (n : Int)] w fun e w' => e = .returned (.slice (some ⟨w.heap.size, 0, none⟩) n n) ∧
      rgB w' w.heap.size (shO L r n ah) ∧ rgB w' c (shL L r n ah) ∧ w'.heap[g]? = (w.setCell ⟨g, o + 1, none⟩ (.int .i64 ((first : Int) + n))).heap[g]? ∧ Chg (K2 g c) w w' := by
  have hrl : r < win := by rw [er]; exact Nat.mod_lt _ hw
  have hmod : (first : Int).tmod (win : Int) = (r : Int) := by rw [er, Int.tmod_eq_emod_of_nonneg (by omega)]; omega
  have hz : ((win : Int) == 0) = false := by simp; omega
  have hz2 : ¬ (win : Int) = 0 := by omega
  have h1 : (r : Int) ≤ (win : Int) := by omega
  have h2 : (win = r) = False := by simp; omega
  have hcl : c < w.heap.size := (Array.getElem?_eq_some_iff.1 hrg).1
  have B1 : Below w.heap.size w (w.alloc (.cells (rc (List.replicate n (false, 0))).toArray 55)) := (Below.refl _ _).alloc (Nat.le_refl _) _
  have c1 := (B1.cell (p := ⟨g, o, none⟩) hgl).trans hc
  have c2 := (B1.cell (p := ⟨g, o + 1, none⟩) hgl).trans hf
  have HB : Hid _ := And.intro B1 (And.intro (hrg.below B1) (And.intro (show rgB (w.alloc (.cells (rc (List.replicate n (false, 0))).toArray 55)) w.heap.size (List.replicate n (false, 0)) from heap_alloc_new w _) (And.intro hL (And.intro ea hfr))))
  clear hrg hL hc hf B1 er
  go_enter Tryd.func18, Tryd.ntmps18
  go_wp2_with (at_make; refine wpList_makeR rfl _ _ rfl n (n : Int) rfl rfl rfl (by omega) ?_)
  generalize ew1 : w.alloc (.cells (rc (List.replicate n (false, 0))).toArray 55) = W1 at HB c1 c2 ⊢
  go_quiet (fail)
  have HB2 : Hid (Below w.heap.size w (W1.drewN nq) ∧ rgB (W1.drewN nq) c L ∧ rgB (W1.drewN nq) w.heap.size (List.replicate n (false, 0)) ∧ L.length = win ∧ ah = min n (win - r) ∧ w.frozen? ⟨g, o + 1, none⟩ = false) := ⟨below_drewN HB.out.1 nq, HB.out.2.1, HB.out.2.2.1, HB.out.2.2.2⟩
  have d1 : (W1.drewN nq).cell? ⟨g, o, none⟩ = some (.slice (some ⟨c, 0, none⟩) win win) := c1
  have d2 : (W1.drewN nq).cell? ⟨g, o + 1, none⟩ = some (.int .i64 (first : Int)) := c2
  clear HB c1 c2 ew1
  generalize W1.drewN nq = W2 at HB2 d1 d2 ⊢
  have hb1 : g ≠ w.heap.size := by omega
  have hb2 : c ≠ w.heap.size := by omega
  have hah : ah ≤ n ∧ r + ah ≤ win ∧ n - ah ≤ win ∧ (n - ah) ≤ r := by omega
  obtain ⟨k1, k2, k3, k4⟩ := hah
  clear ea
  go_wp2_with (refine wpList_copyR rfl (.tmp 26) (.tmp 27) rfl w.heap.size c 0 r n n (win - r) (win - r) ah (List.replicate n (false, 0)) L (some ⟨w.heap.size, 0, none⟩) (some ⟨c, r * 2, none⟩) rfl rfl HB2.out.2.2.1 HB2.out.2.1 (by rw [HB2.out.2.2.2.2.1]; exact Nat.min_comm _ _) (by rw [HB2.out.2.2.2.1]; exact k2) (by simp; omega) (fun _ => ⟨rfl, rfl⟩) ?_; intro w3 r3 n3)
  have e1 : w3.cell? ⟨g, o, none⟩ = some (.slice (some ⟨c, 0, none⟩) win win) := (Only.cellS n3 hb1 o).trans d1
  have e2 : w3.cell? ⟨g, o + 1, none⟩ = some (.int .i64 (first : Int)) := (Only.cellS n3 hb1 (o + 1)).trans d2
  have H3 : Hid _ := And.intro (HB2.out.1.trans (n3.belowS (Nat.le_refl _))) (And.intro (HB2.out.2.1.only n3 hb2) (And.intro r3 (And.intro HB2.out.2.2.2.1 HB2.out.2.2.2.2.2)))
  clear d1 d2 r3 n3 HB2
  have s1 : (ah : Int) ≤ (n : Int) := by omega
  by_cases hna : n = ah
  · subst hna
    go_region_law (refine step_copyR rfl (.tmp 31) (.tmp 35) rfl w.heap.size c n 0 0 0 win win 0 (cpL (List.replicate n (false, 0)) L 0 r n) L (some ⟨w.heap.size, 0, none⟩) (some ⟨c, 0, none⟩) rfl rfl H3.out.2.2.1 H3.out.2.1 (by simp) (by omega) (by rw [cpL_length _ _ _ _ _ (by rw [H3.out.2.2.2.1]; exact k2) (by simp; try omega)]; simp; try omega) (fun h => by omega) ?_; intro w4 r4 n4)
    all_goals
      have q1 : w4.cell? ⟨g, o, none⟩ = some (.slice (some ⟨c, 0, none⟩) win win) := (Only.cellS n4 hb1 o).trans e1
      have q2 : w4.cell? ⟨g, o + 1, none⟩ = some (.int .i64 (first : Int)) := (Only.cellS n4 hb1 (o + 1)).trans e2
      have c4 : rgB w4 c L := rgB.only (w := w3.drew) H3.out.2.1 n4 hb2
      have bl4 : w4.heap[g]? = w.heap[g]? := (n4.block g (by simpa using hb1)).trans (H3.out.1.block g hgl)
      have ch4 : Chg (K2 g c) w w4 := ⟨n4.os.trans H3.out.1.os, n4.tape.trans H3.out.1.tape, n4.output.trans H3.out.1.output, by have h1 := n4.size; have h2 := H3.out.1.size; have h3 : w3.drew.heap.size = w3.heap.size := rfl; omega, fun q hq _ => (n4.block q (by simp; omega)).trans (H3.out.1.block q hq)⟩
      have H4 : Hid _ := And.intro c4 (And.intro r4 (And.intro bl4 (And.intro ch4 H3.out.2.2.2.1)))
      clear r4 n4 c4 bl4 ch4 e1 e2
      have t1 : ((n : Int) : Int) ≤ ((win - r : Nat) : Int) := by omega
      go_simp
      go_wp2_with (first
              | (refine wpList_clearR rfl (.tmp 39) rfl c r n (win - r) L (some ⟨c, r * 2, none⟩) rfl H4.out.1 (by rw [H4.out.2.2.2.2]; exact k2) (fun _ => rfl) ?_; intro w5 r5 n5; have q3 : w5.cell? ⟨g, o, none⟩ = some (.slice (some ⟨c, 0, none⟩) win win) := (Only.cellS n5 hgc o).trans q1; have q4 : w5.cell? ⟨g, o + 1, none⟩ = some (.int .i64 (first : Int)) := (Only.cellS n5 hgc (o + 1)).trans q2)
              | (refine wpList_clearR rfl (.tmp 45) rfl c 0 0 win (clL L r n) (some ⟨c, 0, none⟩) rfl r5 (by rw [clL_length _ _ _ (by rw [H4.out.2.2.2.2]; exact k2), H4.out.2.2.2.2]; omega) (fun _ => rfl) ?_; intro w6 r6 n6; have q5 : w6.cell? ⟨g, o + 1, none⟩ = some (.int .i64 (first : Int)) := (Only.cellS n6 hgc (o + 1)).trans q4; have fz : w6.frozen? ⟨g, o + 1, none⟩ = false := by (have hbk : w6.heap[g]? = w.heap[g]? := (n6.block g (by simpa using hgc)).trans ((n5.block g (by simpa using hgc)).trans H4.out.2.2.1); simp only [World.frozen?, hbk]; exact hfr)))
      go_ret
      have hbk : w6.heap[g]? = w.heap[g]? := (n6.block g (by simpa using hgc)).trans ((n5.block g (by simpa using hgc)).trans H4.out.2.2.1)
      refine ⟨rfl, ?_, ?_, ?_, ?_⟩
      · unfold shO; rw [Nat.sub_self]; exact (bk_other (Ne.symm hb1) _ _).trans ((H4.out.2.1.only n5 (Ne.symm hb2)).only n6 (Ne.symm hb2))
      · unfold shL; rw [Nat.sub_self]; exact (bk_other (Ne.symm hgc) _ _).trans r6
      · simp only [World.setCell, Array.getElem?_modify, hbk]
      · exact ((H4.out.2.2.2.1.trans (Chg.of_only n5 (fun k e => Or.inr (Option.some.inj e).symm))).trans (Chg.of_only n6 (fun k e => Or.inr (Option.some.inj e).symm))).set' g (o + 1) _ (Or.inl rfl)
  · have s2 : (n = ah) = False := by simp; exact hna
    clear hna
    go_region_law (refine step_copyR rfl (.tmp 31) (.tmp 35) rfl w.heap.size c ah 0 (n - ah) (n - ah) win win (n - ah) (cpL (List.replicate n (false, 0)) L 0 r ah) L (some ⟨w.heap.size, ah * 2, none⟩) (some ⟨c, 0, none⟩) rfl rfl H3.out.2.2.1 H3.out.2.1 (by have : n - ah ≤ win := k3; exact (Nat.min_eq_right this).symm) (by rw [H3.out.2.2.2.1]; omega) (by rw [cpL_length _ _ _ _ _ (by rw [H3.out.2.2.2.1]; exact k2) (by simp; try omega)]; simp; try omega) (fun _ => ⟨rfl, rfl⟩) ?_; intro w4 r4 n4)
    all_goals
      have q1 : w4.cell? ⟨g, o, none⟩ = some (.slice (some ⟨c, 0, none⟩) win win) := (Only.cellS n4 hb1 o).trans e1
      have q2 : w4.cell? ⟨g, o + 1, none⟩ = some (.int .i64 (first : Int)) := (Only.cellS n4 hb1 (o + 1)).trans e2
      have c4 : rgB w4 c L := rgB.only (w := w3.drew) H3.out.2.1 n4 hb2
      have bl4 : w4.heap[g]? = w.heap[g]? := (n4.block g (by simpa using hb1)).trans (H3.out.1.block g hgl)
      have ch4 : Chg (K2 g c) w w4 := ⟨n4.os.trans H3.out.1.os, n4.tape.trans H3.out.1.tape, n4.output.trans H3.out.1.output, by have h1 := n4.size; have h2 := H3.out.1.size; have h3 : w3.drew.heap.size = w3.heap.size := rfl; omega, fun q hq _ => (n4.block q (by simp; omega)).trans (H3.out.1.block q hq)⟩
      have H4 : Hid _ := And.intro c4 (And.intro r4 (And.intro bl4 (And.intro ch4 H3.out.2.2.2.1)))
      clear r4 n4 c4 bl4 ch4 e1 e2
      have t1 : ((ah : Int) : Int) ≤ ((win - r : Nat) : Int) := by omega
      go_simp
      go_wp2_with (first
              | (refine wpList_clearR rfl (.tmp 39) rfl c r ah (win - r) L (some ⟨c, r * 2, none⟩) rfl H4.out.1 (by rw [H4.out.2.2.2.2]; exact k2) (fun _ => rfl) ?_; intro w5 r5 n5; have q3 : w5.cell? ⟨g, o, none⟩ = some (.slice (some ⟨c, 0, none⟩) win win) := (Only.cellS n5 hgc o).trans q1; have q4 : w5.cell? ⟨g, o + 1, none⟩ = some (.int .i64 (first : Int)) := (Only.cellS n5 hgc (o + 1)).trans q2)
              | (refine wpList_clearR rfl (.tmp 45) rfl c 0 (n - ah) win (clL L r ah) (some ⟨c, 0, none⟩) rfl r5 (by rw [clL_length _ _ _ (by rw [H4.out.2.2.2.2]; exact k2), H4.out.2.2.2.2]; omega) (fun _ => rfl) ?_; intro w6 r6 n6; have q5 : w6.cell? ⟨g, o + 1, none⟩ = some (.int .i64 (first : Int)) := (Only.cellS n6 hgc (o + 1)).trans q4; have fz : w6.frozen? ⟨g, o + 1, none⟩ = false := by (have hbk : w6.heap[g]? = w.heap[g]? := (n6.block g (by simpa using hgc)).trans ((n5.block g (by simpa using hgc)).trans H4.out.2.2.1); simp only [World.frozen?, hbk]; exact hfr)))
      go_ret
      have hbk : w6.heap[g]? = w.heap[g]? := (n6.block g (by simpa using hgc)).trans ((n5.block g (by simpa using hgc)).trans H4.out.2.2.1)
      refine ⟨rfl, ?_, ?_, ?_, ?_⟩
      · unfold shO; exact (bk_other (Ne.symm hb1) _ _).trans ((H4.out.2.1.only n5 (Ne.symm hb2)).only n6 (Ne.symm hb2))
      · unfold shL; exact (bk_other (Ne.symm hgc) _ _).trans r6
      · simp only [World.setCell, Array.getElem?_modify, hbk]
      · exact ((H4.out.2.2.2.1.trans (Chg.of_only n5 (fun k e => Or.inr (Option.some.inj e).symm))).trans (Chg.of_only n6 (fun k e => Or.inr (Option.some.inj e).symm))).set' g (o + 1) _ (Or.inl rfl)
end Go.Proofs.YtgifbpongpbjaaaDoor
