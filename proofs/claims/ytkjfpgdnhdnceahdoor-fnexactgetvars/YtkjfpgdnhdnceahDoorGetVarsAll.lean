import Derived.Test.YtkjfpgdnhdnceahDoorGetVarsA
import Derived.Test.YtkjfpgdnhdnceahDoorGetVarsS
namespace Go.Proofs.YtkjfpgdnhdnceahDoor
open Go.RowKit
set_option linter.unusedVariables false

theorem specGetVars (v : Value) (xs : List Int) (w : World) (hrow : Row w .u8 v xs) (hB : Bytes xs) (hm : xs.length ≤ 9223372036854775807) :
    Calls Tryd.prog 17 #[v] w fun e w' => ∃ r, e = .returned (.tuple #[r, .int .i64 (gcode xs)]) ∧ w'.ownsRow w.heap.size 3 1 r (glist xs).length ((glist xs).map (Value.int .i64)) ∧ Below w.heap.size w w' := by
  by_cases h16 : 65536 < xs.length
  · obtain ⟨ao, cap, rfl⟩ := hrow.form
    rw [(g_long xs h16).1, (g_long xs h16).2]
    exact specGVs_long ao _ cap w h16 hm
  · have hl : xs.length ≤ 65536 := by omega
    have G0 := specGetVar v xs 0 w hrow hB hm
    by_cases hh : (gv xs 0).2.2 = 0 ∧ cnt xs ≤ 4096
    · obtain ⟨hs0, hc⟩ := hh
      have hlen : 0 < xs.length := (gv_good xs 0 hs0).2.1
      have hG : ∀ (k : Nat) (wr : World), Below w.heap.size w wr → Calls Tryd.prog 6 #[v, .int .i64 (pos xs k)] wr fun e w' => e = .returned (.tuple #[.int .i64 (num xs k), .int .i64 (pos xs (k + 1)), .int .i64 (cod xs k)]) ∧ w' = wr :=
        fun k wr hb => specGetVar v xs (pos xs k) wr (hrow.below hb) hB hm
      rw [hs0, ← cnt_eq xs] at G0
      obtain ⟨b, off, cap, rfl, hbl, hcell⟩ := hrow.at hlen
      have hcn : okv ((nums xs (cnt xs)).length : Int) := by rw [nums_length]; exact ⟨by omega, by omega⟩
      have hzB := cat_bytes (nums xs (cnt xs)) (cnt xs) hcn (nums_ok xs _)
      have hzn : 0 < (cat (nums xs (cnt xs)) (cnt xs)).length := by
        unfold cat
        rw [List.length_append, putv_length]
        have := vsize_bd _ hcn
        omega
      have hPV : ∀ (wr : World) (v : Value), Row wr .i64 v (firsts (num xs) (cnt xs)) → Calls Tryd.prog 10 #[v] wr fun e w' => ∃ r, e = .returned (.tuple #[r, .int .i64 0]) ∧ w'.ownsRow wr.heap.size 5 1 r (cat (nums xs (cnt xs)) (cnt xs)).length ((cat (nums xs (cnt xs)) (cnt xs)).map (Value.int .u8)) ∧ Below wr.heap.size wr w' := by
        intro wr v hr
        have := specPutVars v (nums xs (cnt xs)) wr hr (by rw [nums_length]; omega)
        have hp := p_ok (nums xs (cnt xs)) (by rw [nums_length]; exact hc) (nums_all xs _)
        rw [hp.1, hp.2, nums_length] at this
        exact this
      have fin : ∀ q, q ≤ cnt xs → (∀ k, k < q → cod xs k = 0) → (q < cnt xs → ¬ cod xs q = 0) →
          Calls Tryd.prog 17 #[.slice (some ⟨b, off, none⟩) xs.length cap] w fun e w' => ∃ r, e = .returned (.tuple #[r, .int .i64 (gcode xs)]) ∧ w'.ownsRow w.heap.size 3 1 r (glist xs).length ((glist xs).map (Value.int .i64)) ∧ Below w.heap.size w w' := by
        intro q hq h1 h2
        refine (specGVs_loop b off xs.length cap (cnt xs) q (pos xs) (num xs) (cod xs) xs _ w hl rfl hc hq (pos_bd xs) G0 hG h1 h2 hbl hcell hB hzB hzn hPV).mono ?_
        rintro e w' ⟨r, hb, ⟨hqc, hp, rfl, ho⟩ | ⟨hn, rfl, ho⟩⟩
        · subst hqc
          have hg : goodI xs := (good_iff xs hB hl).2 ⟨hs0, hc, h1, hp⟩
          rw [(g_ok xs hl hg).1, (g_ok xs hl hg).2]
          exact ⟨r, rfl, by rw [nums_length]; exact ho, hb⟩
        · have hg : ¬ goodI xs := by
            intro hgi
            obtain ⟨_, _, h3, h4⟩ := (good_iff xs hB hl).1 hgi
            by_cases hqc : q < cnt xs
            · exact h2 hqc (h3 q hqc)
            · have : q = cnt xs := by omega
              exact hn ⟨this, h4⟩
          rw [(g_no xs hl hg).1, (g_no xs hl hg).2]
          exact ⟨r, rfl, ho, hb⟩
      rcases first_bad (fun k => cod xs k = 0) (cnt xs) with ha | ⟨q, hq, h1, h2⟩
      · exact fin (cnt xs) (Nat.le_refl _) ha (fun h => by omega)
      · exact fin q (by omega) h1 (fun _ => h2)
    · have hg : ¬ goodI xs := fun h => hh ⟨(of_decide_eq_true h.1).1, h.2.1⟩
      rw [(g_no xs hl hg).1, (g_no xs hl hg).2]
      obtain ⟨ao, cap, rfl⟩ := hrow.form
      have hd : ¬ (gv xs 0).2.2 = 0 ∨ 4096 < (gv xs 0).1 := by
        by_cases hs : (gv xs 0).2.2 = 0
        · right
          have := cnt_eq xs
          have : ¬ cnt xs ≤ 4096 := fun h => hh ⟨hs, h⟩
          omega
        · exact Or.inl hs
      exact specGVs_head ao _ cap _ _ _ w hl (gv_num xs 0 (by decide)) G0 hd
end Go.Proofs.YtkjfpgdnhdnceahDoor
