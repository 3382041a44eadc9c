import Derived.Test.YtohooehbjbhhhaaDoorRhE
namespace Go.Proofs.YtohooehbjbhhhaaDoor
open Go.RowKit
set_option linter.unusedVariables false

theorem payI (fb g : Nat) (k : Int) (ao : Option Addr) (n cap : Nat) (ys : List Int) (w : World) (ht : Tab w) (hf : fB w fb k 0 (.slice none 0 0) (.slice none 0 0)) (hr : rdB w g (.slice ao n cap) 0) (hl : Pay w ao n cap ys) (hB : Bytes ys) (hg : Off ao (SG g fb)) (hne : fb ≠ g) (hn : n ≤ 65536) (hTg : ¬ SG g fb 1) :
    Calls Tryd.prog 21 #[.pointer (some ⟨fb, 0, none⟩), .pointer (some ⟨g, 0, none⟩)] w fun e w' => Chg (SG g fb) w w' ∧ ((rhF k ys = none ∧ e = .panicked [leftP 2]) ∨ ∃ f, rhF k ys = some f ∧ e = .returned (.tuple #[]) ∧ PayR w w' fb k f) := by
  by_cases h4 : k = 4
  · subst h4
    refine (pay_s fb g ao n cap ys w ht hf hr hl hB hg hne hn hTg).mono ?_
    rintro e w' ⟨hc, ⟨h1, h2⟩ | ⟨L, h1, h2, h3⟩⟩
    · exact ⟨hc, Or.inl ⟨by unfold rhF; rw [if_pos rfl, h1]; rfl, h2⟩⟩
    · exact ⟨hc, Or.inr ⟨_, by unfold rhF; rw [if_pos rfl, h1]; rfl, h2, h3⟩⟩
  · by_cases h7 : k = 7 ∨ k = 15
    · by_cases hv : varOK ys 0
      · refine (pay_n fb g k ao n cap ys w ht hf hr hl hB hg hne hn h7 hv (fun e => hTg (Or.inl e)) (fun e => hTg (Or.inr e))).mono ?_
        rintro e w' ⟨h2, hc, h3⟩
        exact ⟨hc, Or.inr ⟨_, by unfold rhF; rw [if_neg h4, if_pos h7, if_pos hv], h2, h3⟩⟩
      · refine (pay_nn fb g k ao n cap ys w ht hf hr hl hB hg hn h7 hv).mono ?_
        rintro e w' ⟨h2, hc⟩
        exact ⟨hc, Or.inl ⟨by unfold rhF; rw [if_neg h4, if_pos h7, if_neg hv], h2⟩⟩
    · refine (pay_c fb g k ao n cap ys w ht hf hr hl hg hne hn h4 h7).mono ?_
      rintro e w' ⟨h2, hc, h3⟩
      exact ⟨hc, Or.inr ⟨_, by unfold rhF; rw [if_neg h4, if_neg h7], h2, h3⟩⟩
/-- The answer, or the code. -/
def rhE (xs : List Int) (at' : Int) : Except Int (HF × Nat) :=
  if 65536 < xs.length then .error 4 else if at' < 0 ∨ (xs.length : Int) < at' then .error 1 else rhT xs at'.toNat
theorem rhR_E (xs : List Int) (at' : Int) : rhR xs at' = match rhE xs at' with | .error c => (zHF, 0, c) | .ok (f, q) => (f, (q : Int), 0) := by
  unfold rhR rhE
  split
  · rfl
  split
  · rfl
  rfl
/-- Where no first number is: what GetVar says is what ReadHyper says. -/
theorem rh_bad (xs : List Int) (at' : Int) (h : ¬ (xs.length ≤ 65536 ∧ 0 ≤ at' ∧ at' ≤ xs.length ∧ varOK xs at'.toNat)) : ∃ c, c ≠ 0 ∧ gv xs at' = (0, 0, c) ∧ rhE xs at' = .error c := by
  by_cases h1 : 65536 < xs.length
  · exact ⟨4, by decide, by unfold gv; rw [if_pos h1], by unfold rhE; rw [if_pos h1]⟩
  by_cases h2 : at' < 0 ∨ (xs.length : Int) < at'
  · exact ⟨1, by decide, by unfold gv; rw [if_neg h1, if_pos (by omega)], by unfold rhE; rw [if_neg h1, if_pos h2]⟩
  · obtain ⟨p, rfl⟩ := Int.eq_ofNat_of_zero_le (show 0 ≤ at' by omega)
    have hv : ¬ varOK xs p := fun e => h ⟨by omega, by omega, by omega, by simpa using e⟩
    refine ⟨2, by decide, gv_not xs p (by omega) (by omega) hv, ?_⟩
    unfold rhE rhT
    rw [if_neg h1, if_neg h2, Int.toNat_natCast, if_pos hv]
theorem row_chg {S : Nat → Prop} {w w' : World} {ao : Option Addr} {n cap : Nat} {xs : List Int} (h : Row w .u8 (.slice ao n cap) xs) (hc : Chg S w w') (ho : Off ao S) : Row w' .u8 (.slice ao n cap) xs := by
  rcases h with h | ⟨b, off, cp, e, hlt, hcap, hcell⟩
  · exact Or.inl h
  · cases e
    exact Or.inr ⟨b, off, _, rfl, Nat.lt_of_lt_of_le hlt hc.size, hcap, fun j hj => by rw [← hcell j hj]; simp only [World.cell?]; rw [hc.block b hlt (ho b off rfl)]⟩
/-- The three blocks of a frame's reading: the reader's, the frame's, the place's. -/
abbrev S3 (g fb nb : Nat) : Nat → Prop := fun k => k = g ∨ k = fb ∨ k = nb
set_option maxRecDepth 20000 in
set_option maxHeartbeats 2000000 in
theorem clo_bad (g ab fb nb : Nat) (at' c : Int) (ao : Option Addr) (n cap : Nat) (xs : List Int) (w : World) (ht : Tab w) (ha : w.cell? ⟨ab, 0, none⟩ = some (.int .i64 at')) (hf : fB w fb 0 0 (.slice none 0 0) (.slice none 0 0)) (hr : rdB w g (.slice ao n cap) 0) (hrow : ∀ u, Chg (S3 g fb nb) w u → Row u .u8 (.slice ao n cap) xs) (hlen : xs.length = n) (hB : Bytes xs) (hn : n ≤ 9223372036854775807) (hTg : ¬ S3 g fb nb 1) (hc : c ≠ 0) (hv : gv xs at' = (0, 0, c)) :
    Calls Tryd.prog 17 #[.pointer (some ⟨g, 0, none⟩), .pointer (some ⟨ab, 0, none⟩), .pointer (some ⟨fb, 0, none⟩), .pointer (some ⟨nb, 0, none⟩)] w fun e w' => e = .panicked [leftP c] ∧ Chg (S3 g fb nb) w w' := by
  have c1 := hr.c1
  have f1 := hr.fr 1
  have CS : Chg (S3 g fb nb) w (w.setCell ⟨g, 1, none⟩ (.int .i64 at')) := (Chg.refl _ w).set g 1 _ (Or.inl rfl)
  have V := variable_bad g ao n cap at' c xs (w.setCell ⟨g, 1, none⟩ (.int .i64 at')) (ht.chg CS hTg) (hr.set at') (hrow _ CS) hB hn hlen hv hc
  have HH : Hid _ := And.intro V CS
  clear V CS hf hr hrow hlen hB ht hv
  go_enter Tryd.func17, Tryd.ntmps17
  go_wp2_with fail
  go_at_call 18
  refine HH.out.1.mono ?_
  rintro e w2 ⟨rfl, c2⟩
  have H2 : Hid _ := And.intro (HH.out.2.trans (c2.mono fun q hq => Or.inl hq)) True.intro
  clear c2
  go_wp2_with fail
  exact ⟨rfl, rfl, H2.out.1⟩
end Go.Proofs.YtohooehbjbhhhaaDoor
