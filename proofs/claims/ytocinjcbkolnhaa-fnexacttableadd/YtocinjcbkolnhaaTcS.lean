import Derived.Test.YtocinjcbkolnhaaTcB
namespace Go.Proofs.Ytocinjcbkolnhaa
open Go.RowKit
set_option linter.unusedVariables false


theorem rgBF.below {w w' : World} {c : Nat} {L : List SField} (h : rgBF w c L) (hb : Below w.heap.size w w') : rgBF w' c L := (hb.block c (Array.getElem?_eq_some_iff.1 h).1).trans h
theorem rgBF.only {w w' : World} {c g : Nat} {L : List SField} (h : rgBF w c L) (ho : Only (some g) w w') (hne : c ≠ g) : rgBF w' c L := (ho.5 c (by simpa using hne)).trans h
/-- What is given of the ring, and what is left. -/
def shOF (L : List SField) (r n ah : Nat) : List SField := cpLF (cpLF (List.replicate n default) L 0 r ah) L ah 0 (n - ah)
def shLF (L : List SField) (r n ah : Nat) : List SField := clLF (clLF L r ah) 0 (n - ah)
theorem cpL_lengthF (O L : List SField) (q r m : Nat) (hr : r + m ≤ L.length) (hq : q + m ≤ O.length) : (cpLF O L q r m).length = O.length := by
  unfold cpLF
  simp only [List.length_append, List.length_take, List.length_drop]
  omega
theorem clL_lengthF (L : List SField) (r m : Nat) (hr : r + m ≤ L.length) : (clLF L r m).length = L.length := by
  unfold clLF
  simp only [List.length_append, List.length_take, List.length_drop, List.length_replicate]
  omega
theorem Only.cellSF {g : Nat} {w w' : World} (h : Only (some g) w w') {b : Nat} (hb : b ≠ g) (o : Nat) : w'.cell? ⟨b, o, none⟩ = w.cell? ⟨b, o, none⟩ := by
  have := h.5 b (by simpa using hb)
  simp only [World.cell?, this]
theorem Only.belowSF {g : Nat} {w w' : World} (h : Only (some g) w w') {B : Nat} (hB : B ≤ g) : Below B w w' :=
  ⟨h.1, h.2, h.3, by have := h.4; omega, fun k hk => h.5 k (by simp; omega)⟩
set_option maxRecDepth 20000 in
set_option maxHeartbeats 2000000 in
theorem shiftIF (g o c win first n r ah : Nat) (L : List SField) (w : World) (hc : w.cell? ⟨g, o, none⟩ = some (.slice (some ⟨c, 0, none⟩) win win)) (hf : w.cell? ⟨g, o + 1, none⟩ = some (.int .i64 (first : Int))) (hfr : w.frozen? ⟨g, o + 1, none⟩ = false)
    (hrg : rgBF w c L) (hL : L.length = win) (hw : 0 < win) (hwm : win ≤ 16384) (hn : n ≤ win) (hfi : first ≤ 4611686018427387902) (hgc : g ≠ c) (hgl : g < w.heap.size) (er : r = first % win) (ea : ah = min n (win - r)) :
    Calls Try.prog 39 #[.pointer (some ⟨g, o, none⟩), .int .i64 (n : Int)] w fun e w' => e = .returned (.slice (some ⟨w.heap.size, 0, none⟩) n n) ∧
      rgBF w' w.heap.size (shOF L r n ah) ∧ rgBF w' c (shLF L r n ah) ∧ w'.heap[g]? = (w.setCell ⟨g, o + 1, none⟩ (.int .i64 ((first : Int) + n))).heap[g]? ∧ ChgF (K2F g c) w w' := by
  have hrl : r < win := by rw [er]; exact Nat.mod_lt _ hw
  have hmod : (first : Int).tmod (win : Int) = (r : Int) := by rw [er, Int.tmod_eq_emod_of_nonneg (by omega)]; omega
  have hz : ((win : Int) == 0) = false := by simp; omega
  have hz2 : ¬ (win : Int) = 0 := by omega
  have h1 : (r : Int) ≤ (win : Int) := by omega
  have h2 : (win = r) = False := by simp; omega
  have hcl : c < w.heap.size := (Array.getElem?_eq_some_iff.1 hrg).1
  have B1 : Below w.heap.size w (w.alloc (.cells (rcF (List.replicate n default)).toArray 35)) := (Below.refl _ _).alloc (Nat.le_refl _) _
  have c1 := (B1.cell (p := ⟨g, o, none⟩) hgl).trans hc
  have c2 := (B1.cell (p := ⟨g, o + 1, none⟩) hgl).trans hf
  have HB : Hid _ := And.intro B1 (And.intro (hrg.below B1) (And.intro (show rgBF (w.alloc (.cells (rcF (List.replicate n default)).toArray 35)) w.heap.size (List.replicate n default) from heap_alloc_new w _) (And.intro hL (And.intro ea hfr))))
  clear hrg hL hc hf B1 er
  go_enter Try.func39, Try.ntmps39
  go_wp2_with (at_make; refine wpList_makeRF rfl _ _ rfl n (n : Int) rfl rfl rfl (by omega) ?_)
  generalize ew1 : w.alloc (.cells (rcF (List.replicate n default)).toArray 35) = W1 at HB c1 c2 ⊢
  go_quiet (fail)
  have HB2 : Hid (Below w.heap.size w (W1.drewN nq) ∧ rgBF (W1.drewN nq) c L ∧ rgBF (W1.drewN nq) w.heap.size (List.replicate n default) ∧ L.length = win ∧ ah = min n (win - r) ∧ w.frozen? ⟨g, o + 1, none⟩ = false) := ⟨below_drewN HB.out.1 nq, HB.out.2.1, HB.out.2.2.1, HB.out.2.2.2⟩
  have d1 : (W1.drewN nq).cell? ⟨g, o, none⟩ = some (.slice (some ⟨c, 0, none⟩) win win) := c1
  have d2 : (W1.drewN nq).cell? ⟨g, o + 1, none⟩ = some (.int .i64 (first : Int)) := c2
  clear HB c1 c2 ew1
  generalize W1.drewN nq = W2 at HB2 d1 d2 ⊢
  have hb1 : g ≠ w.heap.size := by omega
  have hb2 : c ≠ w.heap.size := by omega
  have hah : ah ≤ n ∧ r + ah ≤ win ∧ n - ah ≤ win ∧ (n - ah) ≤ r := by omega
  obtain ⟨k1, k2, k3, k4⟩ := hah
  clear ea
  go_wp2_with (refine wpList_copyRF rfl (.tmp 26) (.tmp 27) rfl w.heap.size c 0 r n n (win - r) (win - r) ah (List.replicate n default) L (some ⟨w.heap.size, 0, none⟩) (some ⟨c, r * 2, none⟩) rfl rfl HB2.out.2.2.1 HB2.out.2.1 (by rw [HB2.out.2.2.2.2.1]; exact Nat.min_comm _ _) (by rw [HB2.out.2.2.2.1]; exact k2) (by simp; omega) (fun _ => ⟨rfl, rfl⟩) ?_; intro w3 r3 n3)
  have e1 : w3.cell? ⟨g, o, none⟩ = some (.slice (some ⟨c, 0, none⟩) win win) := (Only.cellSF n3 hb1 o).trans d1
  have e2 : w3.cell? ⟨g, o + 1, none⟩ = some (.int .i64 (first : Int)) := (Only.cellSF n3 hb1 (o + 1)).trans d2
  have H3 : Hid _ := And.intro (HB2.out.1.trans (n3.belowSF (Nat.le_refl _))) (And.intro (HB2.out.2.1.only n3 hb2) (And.intro r3 (And.intro HB2.out.2.2.2.1 HB2.out.2.2.2.2.2)))
  clear d1 d2 r3 n3 HB2
  have s1 : (ah : Int) ≤ (n : Int) := by omega
  by_cases hna : n = ah
  · subst hna
    go_region_law (refine step_copyRF rfl (.tmp 31) (.tmp 35) rfl w.heap.size c n 0 0 0 win win 0 (cpLF (List.replicate n default) L 0 r n) L (some ⟨w.heap.size, 0, none⟩) (some ⟨c, 0, none⟩) rfl rfl H3.out.2.2.1 H3.out.2.1 (by simp) (by omega) (by rw [cpL_lengthF _ _ _ _ _ (by rw [H3.out.2.2.2.1]; exact k2) (by simp; try omega)]; simp; try omega) (fun h => by omega) ?_; intro w4 r4 n4)
    all_goals
      have q1 : w4.cell? ⟨g, o, none⟩ = some (.slice (some ⟨c, 0, none⟩) win win) := (Only.cellSF n4 hb1 o).trans e1
      have q2 : w4.cell? ⟨g, o + 1, none⟩ = some (.int .i64 (first : Int)) := (Only.cellSF n4 hb1 (o + 1)).trans e2
      have c4 : rgBF w4 c L := rgBF.only (w := w3.drew) H3.out.2.1 n4 hb2
      have bl4 : w4.heap[g]? = w.heap[g]? := (n4.block g (by simpa using hb1)).trans (H3.out.1.block g hgl)
      have ch4 : ChgF (K2F g c) w w4 := ⟨n4.os.trans H3.out.1.os, n4.tape.trans H3.out.1.tape, n4.output.trans H3.out.1.output, by have h1 := n4.size; have h2 := H3.out.1.size; have h3 : w3.drew.heap.size = w3.heap.size := rfl; omega, fun q hq _ => (n4.block q (by simp; omega)).trans (H3.out.1.block q hq)⟩
      have H4 : Hid _ := And.intro c4 (And.intro r4 (And.intro bl4 (And.intro ch4 H3.out.2.2.2.1)))
      clear r4 n4 c4 bl4 ch4 e1 e2
      have t1 : ((n : Int) : Int) ≤ ((win - r : Nat) : Int) := by omega
      go_simp
      go_wp2_with (first
              | (refine wpList_clearRF rfl (.tmp 39) rfl c r n (win - r) L (some ⟨c, r * 2, none⟩) rfl H4.out.1 (by rw [H4.out.2.2.2.2]; exact k2) (fun _ => rfl) ?_; intro w5 r5 n5; have q3 : w5.cell? ⟨g, o, none⟩ = some (.slice (some ⟨c, 0, none⟩) win win) := (Only.cellSF n5 hgc o).trans q1; have q4 : w5.cell? ⟨g, o + 1, none⟩ = some (.int .i64 (first : Int)) := (Only.cellSF n5 hgc (o + 1)).trans q2)
              | (refine wpList_clearRF rfl (.tmp 45) rfl c 0 0 win (clLF L r n) (some ⟨c, 0, none⟩) rfl r5 (by rw [clL_lengthF _ _ _ (by rw [H4.out.2.2.2.2]; exact k2), H4.out.2.2.2.2]; omega) (fun _ => rfl) ?_; intro w6 r6 n6; have q5 : w6.cell? ⟨g, o + 1, none⟩ = some (.int .i64 (first : Int)) := (Only.cellSF n6 hgc (o + 1)).trans q4; have fz : w6.frozen? ⟨g, o + 1, none⟩ = false := by (have hbk : w6.heap[g]? = w.heap[g]? := (n6.block g (by simpa using hgc)).trans ((n5.block g (by simpa using hgc)).trans H4.out.2.2.1); simp only [World.frozen?, hbk]; exact hfr)))
      go_ret
      have hbk : w6.heap[g]? = w.heap[g]? := (n6.block g (by simpa using hgc)).trans ((n5.block g (by simpa using hgc)).trans H4.out.2.2.1)
      refine ⟨rfl, ?_, ?_, ?_, ?_⟩
      · unfold shOF; rw [Nat.sub_self]; exact (bk_other (Ne.symm hb1) _ _).trans ((H4.out.2.1.only n5 (Ne.symm hb2)).only n6 (Ne.symm hb2))
      · unfold shLF; rw [Nat.sub_self]; exact (bk_other (Ne.symm hgc) _ _).trans r6
      · simp only [World.setCell, Array.getElem?_modify, hbk]
      · exact ((H4.out.2.2.2.1.trans (ChgF.of_only n5 (fun k e => Or.inr (Option.some.inj e).symm))).trans (ChgF.of_only n6 (fun k e => Or.inr (Option.some.inj e).symm))).set' g (o + 1) _ (Or.inl rfl)
  · have s2 : (n = ah) = False := by simp; exact hna
    clear hna
    go_region_law (refine step_copyRF rfl (.tmp 31) (.tmp 35) rfl w.heap.size c ah 0 (n - ah) (n - ah) win win (n - ah) (cpLF (List.replicate n default) L 0 r ah) L (some ⟨w.heap.size, ah * 2, none⟩) (some ⟨c, 0, none⟩) rfl rfl H3.out.2.2.1 H3.out.2.1 (by have : n - ah ≤ win := k3; exact (Nat.min_eq_right this).symm) (by rw [H3.out.2.2.2.1]; omega) (by rw [cpL_lengthF _ _ _ _ _ (by rw [H3.out.2.2.2.1]; exact k2) (by simp; try omega)]; simp; try omega) (fun _ => ⟨rfl, rfl⟩) ?_; intro w4 r4 n4)
    all_goals
      have q1 : w4.cell? ⟨g, o, none⟩ = some (.slice (some ⟨c, 0, none⟩) win win) := (Only.cellSF n4 hb1 o).trans e1
      have q2 : w4.cell? ⟨g, o + 1, none⟩ = some (.int .i64 (first : Int)) := (Only.cellSF n4 hb1 (o + 1)).trans e2
      have c4 : rgBF w4 c L := rgBF.only (w := w3.drew) H3.out.2.1 n4 hb2
      have bl4 : w4.heap[g]? = w.heap[g]? := (n4.block g (by simpa using hb1)).trans (H3.out.1.block g hgl)
      have ch4 : ChgF (K2F g c) w w4 := ⟨n4.os.trans H3.out.1.os, n4.tape.trans H3.out.1.tape, n4.output.trans H3.out.1.output, by have h1 := n4.size; have h2 := H3.out.1.size; have h3 : w3.drew.heap.size = w3.heap.size := rfl; omega, fun q hq _ => (n4.block q (by simp; omega)).trans (H3.out.1.block q hq)⟩
      have H4 : Hid _ := And.intro c4 (And.intro r4 (And.intro bl4 (And.intro ch4 H3.out.2.2.2.1)))
      clear r4 n4 c4 bl4 ch4 e1 e2
      have t1 : ((ah : Int) : Int) ≤ ((win - r : Nat) : Int) := by omega
      go_simp
      go_wp2_with (first
              | (refine wpList_clearRF rfl (.tmp 39) rfl c r ah (win - r) L (some ⟨c, r * 2, none⟩) rfl H4.out.1 (by rw [H4.out.2.2.2.2]; exact k2) (fun _ => rfl) ?_; intro w5 r5 n5; have q3 : w5.cell? ⟨g, o, none⟩ = some (.slice (some ⟨c, 0, none⟩) win win) := (Only.cellSF n5 hgc o).trans q1; have q4 : w5.cell? ⟨g, o + 1, none⟩ = some (.int .i64 (first : Int)) := (Only.cellSF n5 hgc (o + 1)).trans q2)
              | (refine wpList_clearRF rfl (.tmp 45) rfl c 0 (n - ah) win (clLF L r ah) (some ⟨c, 0, none⟩) rfl r5 (by rw [clL_lengthF _ _ _ (by rw [H4.out.2.2.2.2]; exact k2), H4.out.2.2.2.2]; omega) (fun _ => rfl) ?_; intro w6 r6 n6; have q5 : w6.cell? ⟨g, o + 1, none⟩ = some (.int .i64 (first : Int)) := (Only.cellSF n6 hgc (o + 1)).trans q4; have fz : w6.frozen? ⟨g, o + 1, none⟩ = false := by (have hbk : w6.heap[g]? = w.heap[g]? := (n6.block g (by simpa using hgc)).trans ((n5.block g (by simpa using hgc)).trans H4.out.2.2.1); simp only [World.frozen?, hbk]; exact hfr)))
      go_ret
      have hbk : w6.heap[g]? = w.heap[g]? := (n6.block g (by simpa using hgc)).trans ((n5.block g (by simpa using hgc)).trans H4.out.2.2.1)
      refine ⟨rfl, ?_, ?_, ?_, ?_⟩
      · unfold shOF; exact (bk_other (Ne.symm hb1) _ _).trans ((H4.out.2.1.only n5 (Ne.symm hb2)).only n6 (Ne.symm hb2))
      · unfold shLF; exact (bk_other (Ne.symm hgc) _ _).trans r6
      · simp only [World.setCell, Array.getElem?_modify, hbk]
      · exact ((H4.out.2.2.2.1.trans (ChgF.of_only n5 (fun k e => Or.inr (Option.some.inj e).symm))).trans (ChgF.of_only n6 (fun k e => Or.inr (Option.some.inj e).symm))).set' g (o + 1) _ (Or.inl rfl)
end Go.Proofs.Ytocinjcbkolnhaa
