import Derived.Test.YtohooehbjbhhhaaDoorRhF
namespace Go.Proofs.YtohooehbjbhhhaaDoor
open Go.RowKit
set_option linter.unusedVariables false

theorem fB.set0 {w : World} {g : Nat} {k a : Int} {d s : Value} (h : fB w g k a d s) (x : Int) : fB (w.setCell ⟨g, 0, none⟩ (.int .i64 x)) g x a d s := bk_set h 0 _
theorem pay_of_owns {w : World} {base k : Nat} {v : Value} {ys : List Int} (h : w.ownsRow base 5 1 v k (ys.map (Value.int .u8))) : ∃ va vc, v = .slice va k vc ∧ Pay w va k vc ys ∧ (∀ b off, va = some ⟨b, off, none⟩ → base ≤ b ∧ b < w.heap.size) := by
  have hl : ys.length = k := by have := h.1; simpa using this
  have h' := h
  rcases h.2 with ⟨rfl, e⟩ | ⟨g, cap, cur, rfl, hg, hh, hnc, hcm, _⟩
  · subst e
    have hy : ys = [] := List.eq_nil_of_length_eq_zero hl
    exact ⟨none, 0, rfl, Or.inl ⟨rfl, rfl, rfl, hy⟩, fun b off e => by cases e⟩
  · have hlt := (Array.getElem?_eq_some_iff.1 hh).1
    refine ⟨_, cap, rfl, Or.inr ⟨g, 0, rfl, ⟨hl, hlt, hnc, hcm, fun j hj => ?_⟩⟩, fun b off e => ?_⟩
    · have := h'.cellAt j (by simpa using hj)
      rw [Nat.zero_add, this]
      simp [List.getD, hl, hj]
    · cases e
      exact ⟨hg, hlt⟩
/-- What the closure leaves. -/
def CloR (B : Nat) (w' : World) (fb nb : Nat) (f : HF) (q : Nat) : Prop := (∃ d s : Value, fB w' fb f.k f.a d s ∧ w'.ownsRow B 5 1 d f.d.length (f.d.map (Value.int .u8)) ∧ GOwns 40 2 w' B s (SSetting.L f.s) ∧ (∀ j, d.ownBlock = some j → s.ownBlock ≠ some j)) ∧ w'.heap[nb]? = some (.cells #[.int .i64 (q : Int)] 3 (0, 0))
theorem chg_two {w W u : World} {fb : Nat} (b2 : Below w.heap.size w W) (hc : Chg (SG (w.heap.size + 1) fb) W u) : Chg (· = fb) w u :=
  ⟨hc.os.trans b2.os, hc.tape.trans b2.tape, hc.output.trans b2.output, Nat.le_trans b2.size hc.size, fun q hq hs => (hc.block q (Nat.lt_of_lt_of_le hq b2.size) (fun h => by
    rcases h with h | h
    · omega
    · exact hs h)).trans (b2.block q hq)⟩
theorem chg_new {S : Nat → Prop} {w u : World} {b i : Nat} {x : Value} (hc : Chg S w u) (hb : w.heap.size ≤ b) : Chg S w (u.setCell ⟨b, i, none⟩ x) :=
  ⟨hc.os, hc.tape, hc.output, by simp [World.setCell]; exact hc.size, fun q hq hs => (bk_other (by omega) i x).trans (hc.block q hq hs)⟩
/-- readBytes over the payload. -/
theorem rbP (fb : Nat) (k : Int) (va : Option Addr) (n vc : Nat) (ys : List Int) (w : World) (ht : Tab w) (hf : fB w fb k 0 (.slice none 0 0) (.slice none 0 0)) (hl : Pay w va n vc ys) (hB : Bytes ys) (hg : Off va (· = fb)) (hn : n ≤ 65536) (hTf : 1 ≠ fb) :
    Calls Tryd.prog 16 #[.slice va n vc, .func (.func 21) #[.pointer (some ⟨fb, 0, none⟩)] #[]] w fun e w' => Chg (· = fb) w w' ∧ ((rhF k ys = none ∧ e = .returned (faultV 2)) ∨ ∃ f, rhF k ys = some f ∧ e = .returned .nilIface ∧ PayR w w' fb k f) := by
  have b1 : Below w.heap.size w (w.alloc (.cells #[.nilIface] 44)) := (Below.refl _ _).alloc (Nat.le_refl _) _
  have b2 : Below w.heap.size w ((w.alloc (.cells #[.nilIface] 44)).alloc (.cells #[.slice va n vc, .int .i64 0] 48)) := b1.alloc b1.size _
  obtain ⟨k1, k2⟩ := bk_new2 w (.cells #[.nilIface] 44) (.cells #[.slice va n vc, .int .i64 0] 48)
  have hfl := hf.lt
  have htl := ht.lt
  have P := payI fb (w.heap.size + 1) k va n vc ys _ (ht.below b2 htl) (hf.chg (S := fun _ => False) (Chg.of_below b2) (fun h => h)) k2 (hl.chg (S := fun _ => False) (Chg.of_below b2) (fun _ _ _ h => h)) hB (fun b off e h => by
      rcases h with h | h
      · rcases hl with ⟨h1, _⟩ | ⟨b', off', e', hl'⟩
        · rw [h1] at e; cases e
        · rw [e'] at e; cases e; have := hl'.lt; omega
      · exact hg b off e h) (by omega) hn (fun h => by rcases h with h | h <;> omega)
  cases hF : rhF k ys with
  | none =>
    refine (rbP_bad va n vc (.pointer (some ⟨fb, 0, none⟩)) 2 w (fun w' => Chg (SG (w.heap.size + 1) fb) ((w.alloc (.cells #[.nilIface] 44)).alloc (.cells #[.slice va n vc, .int .i64 0] 48)) w') ?_ ?_).mono ?_
    · refine P.mono ?_
      rintro e w' ⟨hc, ⟨_, rfl⟩ | ⟨f, h1, _⟩⟩
      · exact ⟨rfl, hc⟩
      · rw [hF] at h1; cases h1
    · intro w' hc
      exact (hc.block w.heap.size (by simp; omega) (fun h => by rcases h with h | h <;> omega)).trans k1
    · rintro e w'' ⟨rfl, w', hc, rfl⟩
      exact ⟨(chg_new (chg_two b2 hc) (Nat.le_refl _)).trans (Chg.of_below ((Below.refl _ _).alloc (Nat.le_refl _) _)), Or.inl ⟨rfl, rfl⟩⟩
  | some f =>
    refine (rbP_ok va n vc (.pointer (some ⟨fb, 0, none⟩)) w (fun w' => Chg (SG (w.heap.size + 1) fb) ((w.alloc (.cells #[.nilIface] 44)).alloc (.cells #[.slice va n vc, .int .i64 0] 48)) w' ∧ PayR ((w.alloc (.cells #[.nilIface] 44)).alloc (.cells #[.slice va n vc, .int .i64 0] 48)) w' fb k f) ?_ ?_).mono ?_
    · refine P.mono ?_
      rintro e w' ⟨hc, ⟨h1, _⟩ | ⟨f', h1, rfl, h3⟩⟩
      · rw [hF] at h1; cases h1
      · rw [hF] at h1; cases h1; exact ⟨rfl, hc, h3⟩
    · intro w' hc
      exact (hc.1.block w.heap.size (by simp; omega) (fun h => by rcases h with h | h <;> omega)).trans k1
    · rintro e w'' ⟨rfl, w', ⟨hc, d, s, h1, h2, h3, h4⟩, rfl⟩
      have hs2 : w.heap.size + 2 ≤ ((w.alloc (.cells #[.nilIface] 44)).alloc (.cells #[.slice va n vc, .int .i64 0] 48)).heap.size := by simp
      refine ⟨chg_new (chg_two b2 hc) (Nat.le_refl _), Or.inr ⟨f, rfl, rfl, d, s, (bk_other (by omega) 0 _).trans h1, ?_, ?_, h4⟩⟩
      · exact owns_mono (own_setH h2 (by omega)) (by omega)
      · exact (gown_setH h3 (by omega)).mono (by omega)
end Go.Proofs.YtohooehbjbhhhaaDoor
