import Derived.Test.YthjakbpcpfmbjaaFuO
namespace Go.Proofs.Ythjakbpcpfmbjaa
open Go.RowKit
set_option linter.unusedVariables false
set_option linter.unusedSimpArgs false

theorem newAccW (a b : Int) (W u : World) (hu : u.os = W.os ∧ u.tape = W.tape ∧ u.output = W.output ∧ u.heap = W.heap) :
    Calls Try.prog 34 #[.int .i64 a, .int .i64 b] u fun e w' => e = .returned (.pointer (some ⟨W.heap.size, 0, none⟩)) ∧ w'.heap[W.heap.size]? = some (.cells #[.int .i64 a, .int .i64 0, .int .i64 b, .int .i64 0, .int .i64 0, .int .i64 a] 96 (0, 0)) ∧ Below W.heap.size W w' := by
  refine (newAccI a b u).mono ?_
  rintro e w' ⟨rfl, rfl⟩
  obtain ⟨h1, h2, h3, h4⟩ := hu
  refine ⟨by rw [h4], by rw [← h4]; exact heap_alloc_new _ _, h1, h2, h3, ?_, fun k hk => ?_⟩
  · rw [← h4]; simp
  · rw [Below.heap_alloc _ _ _ (by rw [h4]; exact hk), h4]
theorem idn_valid {s o : Bool} {k : Int} (h0 : 0 ≤ k) (h1 : k < 1152921504606846976) : (Lit.int .i64 (idn s o k)).wf = true := by
  have := idn_bound (s := s) (o := o) h0 h1
  simp only [Lit.wf, Bool.and_eq_true, decide_eq_true_eq]
  exact ⟨by show (-9223372036854775808 : Int) ≤ _; omega, by show _ ≤ (9223372036854775807 : Int); omega⟩
/-- What openNext leaves. -/
def OpenP (w w' : World) (g base : Nat) (F : FS) (m : FX) (ss sc : Int) (wb ms ml : Nat) (b : Nat) (id : Int) : Prop :=
  ∃ pb', FR w' g base F { incK F m b with L := m.L ++ [SX.new F id] } ss sc wb ms ml pb' ∧ FCh base w w'
set_option maxRecDepth 20000 in
set_option maxHeartbeats 4000000 in
theorem openNI (g base : Nat) (F : FS) (m : FX) (ss sc : Int) (wb ms ml : Nat) (pb : Nat → Nat) (b : Nat) (w : World) (h : FR w g base F m ss sc wb ms ml pb) (hb : b < 4) (hbase : base ≤ w.heap.size) (hk0 : 0 ≤ kO F m b) (hk1 : kO F m b < 1152921504606846976)
    (hn : ¬ ixf m.L (idn (bS b) (bO b) (kO F m b)) < m.L.length) (hl : m.L.length ≤ 4096) :
    Calls Try.prog 52 #[.pointer (some ⟨g, 0, none⟩), .int .i64 (b : Int)] w fun e w' => e = .returned (.int .i64 (idn (bS b) (bO b) (kO F m b))) ∧ OpenP w w' g base F m ss sc wb ms ml b (idn (bS b) (bO b) (kO F m b)) := by
  obtain ⟨k0, k1⟩ := h.kc b hb
  obtain ⟨f0, f1⟩ := h.kfree b
  have hid := idn_valid (s := bS b) (o := bO b) hk0 hk1
  have hbd := idn_bound (s := bS b) (o := bO b) hk0 hk1
  have hpt := (idn_parts (s := bS b) (o := bO b) hk0 hk1).1
  have eid : kO F m b * 4 + (b : Int) = idn (bS b) (bO b) (kO F m b) := by
    rw [idn_bN]
    congr 1
    obtain rfl | rfl | rfl | rfl : b = 0 ∨ b = 1 ∨ b = 2 ∨ b = 3 := by omega
    all_goals rfl
  have hbi : (b : Int) < 4 := by omega
  have HK := incK_L F m b
  obtain ⟨W1, eW1⟩ : ∃ W1, W1 = w.setCell ⟨g, 10 + b * 2, none⟩ (.int .i64 (kO F m b + 1)) := ⟨_, rfl⟩
  have h1 : FR W1 g base F (incK F m b) ss sc wb ms ml pb := by rw [eW1]; exact h.setK _ _ (fcells_inc F m wb ms ml b hb) HK.1 HK.2.1 HK.2.2.1 HK.2.2.2
  have hc1 : FCh base w W1 := by rw [eW1]; exact h.chK (ChT.refl _ _ _) _ _
  have hs1 : W1.heap.size = w.heap.size := by rw [eW1]; exact setCell_sizeT _ _ _
  have c18 : w.cell? ⟨g, 18, none⟩ = some (.map (some ms)) := h.cell 18
  have c2 : w.cell? ⟨g, 2, none⟩ = some (.int .i64 F.sw) := h.cell 2
  have c6 : w.cell? ⟨g, 6, none⟩ = some (.int .i64 F.ps) := h.cell 6
  have hgl : g < W1.heap.size := (Array.getElem?_eq_some_iff.1 h1.bk).1
  obtain ⟨id, eI⟩ : ∃ id, id = idn (bS b) (bO b) (kO F m b) := ⟨_, rfl⟩
  rw [← eI] at hid hbd hpt eid hn ⊢
  have hn1 : ¬ ixf (incK F m b).L id < (incK F m b).L.length := by rw [HK.1]; exact hn
  obtain ⟨k, ek⟩ : ∃ k, k = kO F m b := ⟨_, rfl⟩
  rw [← ek] at k0 eid eW1 hk0 hk1
  have HH : Hid _ := And.intro h1 (And.intro hc1 (And.intro hs1 (And.intro hn1 (And.intro hid (And.intro hbd (And.intro hpt (And.intro HK (And.intro hl (And.intro hbase hgl)))))))))
  have HE : Hid _ := And.intro ek eW1
  clear h1 hc1 hs1 hn1 hpt HK hl hbase hn eI h ek hgl eW1 hid
  have hid : 0 ≤ id ∧ id < 4611686018427387904 := hbd
  clear hbd
  go_enter Try.func52, Try.ntmps52
  go_wp2_with fail
  go_region
  go_wp2_with fail
  have x18 : (w.setCell ⟨g, 10 + b * 2, none⟩ (.int .i64 (k + 1))).drew.drew.cell? ⟨g, 18, none⟩ = some (.map (some ms)) := by have t := HH.out.1.cell 18; rw [HE.out.2] at t; exact t
  have x2 : (w.setCell ⟨g, 10 + b * 2, none⟩ (.int .i64 (k + 1))).drew.drew.cell? ⟨g, 2, none⟩ = some (.int .i64 F.sw) := by have t := HH.out.1.cell 2; rw [HE.out.2] at t; exact t
  have x6 : (w.setCell ⟨g, 10 + b * 2, none⟩ (.int .i64 (k + 1))).drew.drew.cell? ⟨g, 6, none⟩ = some (.int .i64 F.ps) := by have t := HH.out.1.cell 6; rw [HE.out.2] at t; exact t
  go_region_held3 (fun w' => w'.cell? ⟨g, 18, none⟩ = some (.map (some ms)) ∧ w'.cell? ⟨g, 2, none⟩ = some (.int .i64 F.sw) ∧ w'.cell? ⟨g, 6, none⟩ = some (.int .i64 F.ps)) (go_keep)
    (first
    | (go_at_call 34; refine (newAccW _ _ W1 _ ⟨by rw [HE.out.2]; rfl, by rw [HE.out.2]; rfl, by rw [HE.out.2]; rfl, by rw [HE.out.2]; rfl⟩).mono ?_; rintro e w3 ⟨rfl, n3, b3⟩; have h3 := HH.out.1.below b3; have y18 : w3.cell? ⟨g, 18, none⟩ = some (.map (some ms)) := h3.cell 18; have y2 : w3.cell? ⟨g, 2, none⟩ = some (.int .i64 F.sw) := h3.cell 2; have y6 : w3.cell? ⟨g, 6, none⟩ = some (.int .i64 F.ps) := h3.cell 6
       obtain ⟨w4, hr4, p4, t4⟩ := h3.sm.put HH.out.2.2.2.2.1 (some W1.heap.size) (by have h1 := HH.out.2.2.2.2.2.2.2.1.1; have h2 := HH.out.2.2.2.2.2.2.2.2.1; rw [h1]; unfold maxLen; omega)
       simp only [pval] at hr4
       have q4 : ∀ k, k ≠ ms → w4.heap[k]? = w3.heap[k]? := fun k hk => turned_other t4 hk
       have z18 : w4.cell? ⟨g, 18, none⟩ = some (.map (some ms)) := (World.cell?_of_block (a := ⟨g, 18, none⟩) (q4 g h3.ng.2.1)).trans y18
       have z2 : w4.cell? ⟨g, 2, none⟩ = some (.int .i64 F.sw) := (World.cell?_of_block (a := ⟨g, 2, none⟩) (q4 g h3.ng.2.1)).trans y2
       have z6 : w4.cell? ⟨g, 6, none⟩ = some (.int .i64 F.ps) := (World.cell?_of_block (a := ⟨g, 6, none⟩) (q4 g h3.ng.2.1)).trans y6
       have z0 : w4.cell? ⟨g, 0, none⟩ = some (.bool F.sv) := (World.cell?_of_block (a := ⟨g, 0, none⟩) (q4 g h3.ng.2.1)).trans (h3.cell 0)
       have z19 : w4.cell? ⟨g, 19, none⟩ = some (.map (some ml)) := (World.cell?_of_block (a := ⟨g, 19, none⟩) (q4 g h3.ng.2.1)).trans (h3.cell 19)
       have H3 : Hid _ := And.intro n3 (And.intro b3 (And.intro h3 (And.intro p4 (And.intro q4 (turned_ch (S := fT) t4 h3.lo.2.2.1)))))
       clear n3 b3 h3 p4 t4 q4))
  have O := oursI g F.sv id w4 z0 hid.1 hid.2
  have hL : ¬ lasts F (incK F m b).L id := fun q => HH.out.2.2.2.1 q.1
  have l4 : PM w4 ml (incK F m b).L.length (mL F (incK F m b).L pb) := H3.out.2.2.1.lm.same (H3.out.2.2.2.2.1 ml H3.out.2.2.1.ne.symm)
  have hmx : (incK F m b).L.length < maxLen := by have h1 := HH.out.2.2.2.2.2.2.2.1.1; have h2 := HH.out.2.2.2.2.2.2.2.2.1; rw [h1]; unfold maxLen; omega
  have fin : ∀ w5 : World, PM w5 ml ((incK F m b).L.length + 1) (fun id' => if id' = id then (if ptS id = F.sv then none else some W1.heap.size) else mL F (incK F m b).L pb id') → (∀ k, k ≠ ml → w5.heap[k]? = w4.heap[k]?) → FCh base w4 w5 → OpenP w w5 g base F m ss sc wb ms ml b id := fun w5 p5 q5 c5 => by
    have hP := HH.out.1.push (by rw [HH.out.2.2.1]; exact HH.out.2.2.2.2.2.2.2.2.2.1) id HH.out.2.2.2.1 H3.out.2.1 H3.out.1 H3.out.2.2.2.1 H3.out.2.2.2.2.1 p5 q5
    rw [HH.out.2.2.2.2.2.2.2.1.1] at hP
    exact ⟨_, hP, ((HH.out.2.1.trans (ChT.of_below H3.out.2.1)).trans H3.out.2.2.2.2.2).trans c5⟩
  have HF : Hid _ := And.intro O (And.intro hL (And.intro l4 fin))
  clear O hL l4 fin
  by_cases hz : ptS id = F.sv
  · have hzb : (ptS id == F.sv) = true := by simpa using hz
    rw [hzb] at HF
    have HZ : Hid _ := hz
    clear hz hzb
    go_wp2_with (first | (go_at_call 54; refine HF.out.1.mono ?_; rintro e w6 ⟨rfl, hw6⟩; subst hw6))
    go_ret
    refine ⟨rfl, HF.out.2.2.2 _ ((HF.out.2.2.1.mono (by omega)).congr fun id' _ => ?_) (fun _ _ => rfl) (ChT.refl _ _ _)⟩
    by_cases e : id' = id
    · rw [if_pos e, if_pos HZ.out, e, mL_neg HF.out.2.1]
    · rw [if_neg e]
  · have hzb : (ptS id == F.sv) = false := by simpa using hz
    rw [hzb] at HF
    have HZ : Hid _ := hz
    have LK := (H3.out.2.2.2.1.same (w' := w4.drew) rfl).look HH.out.2.2.2.2.1
    unfold updI at LK
    rw [if_pos rfl] at LK
    simp only [pval] at LK
    obtain ⟨w5, hr5, p5, t5⟩ := (HF.out.2.2.1.same (w' := w4.drew) rfl).put HH.out.2.2.2.2.1 (some W1.heap.size) hmx
    simp only [pval] at hr5
    have H5 : Hid _ := And.intro p5 t5
    clear hz hzb p5 t5
    go_wp2_with (first | (go_at_call 54; refine HF.out.1.mono ?_; rintro e w6 ⟨rfl, hw6⟩; subst hw6))
    go_region
    go_wp2
    go_ret
    refine ⟨rfl, HF.out.2.2.2 _ (H5.out.1.congr fun id' _ => ?_) (fun k hk => turned_other H5.out.2 hk) ((ChT.refl _ _ _).drew.trans (turned_ch H5.out.2 H3.out.2.2.1.lo.2.2.2))⟩
    unfold updI
    by_cases e : id' = id
    · rw [if_pos e, if_pos e, if_neg HZ.out]
    · rw [if_neg e, if_neg e]
end Go.Proofs.Ythjakbpcpfmbjaa
