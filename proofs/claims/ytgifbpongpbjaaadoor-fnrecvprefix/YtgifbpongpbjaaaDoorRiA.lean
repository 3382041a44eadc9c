import Derived.Test.YtgifbpongpbjaaaDoorRmC
import Derived.Test.YtgifbpongpbjaaaDoorStF
import Derived.Test.YtgifbpongpbjaaaDoorStE
import Derived.Test.YtgifbpongpbjaaaDoorStX
namespace Go.Proofs.YtgifbpongpbjaaaDoor
open Go.RowKit
set_option linter.unusedVariables false

/-- The program's receiving part stands for m. -/
def Rep (w : World) (g c win : Nat) (m : MS) : Prop :=
  ∃ L : PL, rcB w g c win m.st m.read (cnt m.T : Nat) (m.T.length : Nat) (if m.sized then m.final else -1) m.told ∧ rgB w c L ∧ RR win m.read L m.T
theorem Rep.chg {w w' : World} {g c win : Nat} {m : MS} {S : Nat → Prop} (h : Rep w g c win m) (hc : Chg S w w') (hg : ¬ S g) (hcc : ¬ S c) : Rep w' g c win m := by
  obtain ⟨L, a, b, r⟩ := h
  exact ⟨L, (hc.block g (Array.getElem?_eq_some_iff.1 a).1 hg).trans a, (hc.block c (Array.getElem?_eq_some_iff.1 b).1 hcc).trans b, r⟩
theorem Rep.below {w w' : World} {g c win : Nat} {m : MS} (h : Rep w g c win m) (hb : Below w.heap.size w w') : Rep w' g c win m := by
  obtain ⟨L, a, b, r⟩ := h
  exact ⟨L, (hb.block g (Array.getElem?_eq_some_iff.1 a).1).trans a, (hb.block c (Array.getElem?_eq_some_iff.1 b).1).trans b, r⟩
/-- What the program's part needs of the world: the table, and where things lie. -/
structure Env (w : World) (g c win i : Nat) (m : MS) : Prop where
  tab : TabF w
  t0 : 0 < w.heap.size
  hne : ¬ K2 g c 0
  hgc : g ≠ c
  w1 : 1 ≤ win
  w2 : win ≤ 16384
  i4 : i ≤ 400
  inv : MI win i m
theorem Env.after {w w' : World} {g c win i : Nat} {m m' : MS} (h : Env w g c win i m) (hc : Chg (K2 g c) w w') (hi : i + 1 ≤ 400) (hm : MI win (i + 1) m') : Env w' g c win (i + 1) m' :=
  ⟨h.tab.chg hc h.t0 h.hne, Nat.lt_of_lt_of_le h.t0 hc.size, h.hne, h.hgc, h.w1, h.w2, hi, hm⟩
theorem Chg.of_eq' {S : Nat → Prop} {w w' : World} (h : w' = w) : Chg S w w' := by subst h; exact chg_of_eq _
theorem dataR (g c win i : Nat) (m : MS) (off : Int) (v : Value) (D : List Int) (fb : Bool) (w : World) (hE : Env w g c win i m) (hR : Rep w g c win m) (hrow : Row w .u8 v D) (hl : D.length ≤ 140737488355328) (ho : off ≤ 9223372036854775807)
    (hap : 0 < D.length → ∀ b o l cp, v = .slice (some ⟨b, o, none⟩) l cp → b ≠ g ∧ b ≠ c) :
    Calls Tryd.prog 11 #[.pointer (some ⟨g, 0, none⟩), .int .i64 off, v, .bool fb] w fun e w' => e = .returned (.int .i64 (mdata m off D fb).2) ∧ Rep w' g c win (mdata m off D fb).1 ∧ Chg (K2 g c) w w' := by
  obtain ⟨L, hb, hr, rr⟩ := id hR
  have I := hE.inv
  have hrd := I.read
  have hct : cnt m.T ≤ m.T.length := List.countP_le_length
  have hcn := I.cnt
  have htd := I.told
  have htt := I.toldT
  have hi4 := hE.i4
  have hw2 := hE.w2
  have hsz := I.szd
  have hfin := I.fin
  obtain ⟨av, dc, ev⟩ := hrow.form
  by_cases a1 : 1500 < D.length
  · have e : mdata m off D fb = (m, 1) := by unfold mdata; rw [if_pos (Or.inl a1)]
    rw [e, ev]
    refine (data_1 g c win m.st m.read (cnt m.T) m.T.length _ m.told off av D.length dc fb w hb a1 (by omega)).mono ?_
    rintro e w' ⟨rfl, hw⟩
    exact ⟨rfl, hw ▸ hR, Chg.of_eq' hw⟩
  by_cases a2 : off < 0
  · have e : mdata m off D fb = (m, 1) := by unfold mdata; rw [if_pos (Or.inr (Or.inl a2))]
    rw [e, ev]
    refine (data_2 g c win m.st m.read (cnt m.T) m.T.length _ m.told off av D.length dc fb w hb (by omega) a2).mono ?_
    rintro e w' ⟨rfl, hw⟩
    exact ⟨rfl, hw ▸ hR, Chg.of_eq' hw⟩
  by_cases a3 : 4611686018427387903 - (D.length : Int) < off
  · have e : mdata m off D fb = (m, 1) := by unfold mdata; rw [if_pos (Or.inr (Or.inr a3))]
    rw [e, ev]
    refine (data_3 g c win m.st m.read (cnt m.T) m.T.length _ m.told off av D.length dc fb w hb (by omega) (by omega) a3 ho).mono ?_
    rintro e w' ⟨rfl, hw⟩
    exact ⟨rfl, hw ▸ hR, Chg.of_eq' hw⟩
  by_cases a4 : m.told < off + D.length
  · have e : mdata m off D fb = (m, 8) := by unfold mdata; rw [if_neg (by omega), if_pos a4]
    rw [e, ev]
    refine (data_4 g c win m.st m.read (cnt m.T) m.T.length _ m.told off av D.length dc fb w hb (by omega) (by omega) (by omega) a4).mono ?_
    rintro e w' ⟨rfl, hw⟩
    exact ⟨rfl, hw ▸ hR, Chg.of_eq' hw⟩
  by_cases a5 : (m.sized = true ∧ (m.final < off + D.length ∨ (fb = true ∧ off + D.length ≠ m.final))) ∨ (fb = true ∧ off + D.length < m.T.length)
  · have e : mdata m off D fb = (m, 10) := by unfold mdata; rw [if_neg (by omega), if_neg a4, if_pos a5]
    rw [e, ev]
    by_cases a6 : m.sized = true ∧ m.final < off + D.length
    · have hf := hfin a6.1
      rw [a6.1, if_pos rfl] at hb
      refine (data_5 g c win m.st m.read (cnt m.T) m.T.length m.final m.told off av D.length dc fb w hb (by omega) (by omega) (by omega) (by omega) (by omega) a6.2).mono ?_
      rintro e w' ⟨rfl, hw⟩
      exact ⟨rfl, hw ▸ hR, Chg.of_eq' hw⟩
    · have hfb : fb = true := by
        rcases a5 with ⟨h1, h2 | h2⟩ | h2
        · exact absurd ⟨h1, h2⟩ a6
        · exact h2.1
        · exact h2.1
      refine (data_6 g c win m.st m.read (cnt m.T) m.T.length _ m.told off av D.length dc fb w hb (by omega) (by omega) (by omega) (by omega) ?_ hfb ?_).mono ?_
      · by_cases h1 : m.sized = true
        · rw [if_pos h1]; right
          have : ¬ m.final < off + D.length := fun e => a6 ⟨h1, e⟩
          omega
        · rw [if_neg h1]; exact Or.inl rfl
      · rintro ⟨h1, h2⟩
        rcases a5 with ⟨h3, h4 | h4⟩ | h4
        · exact a6 ⟨h3, h4⟩
        · rw [if_pos h3] at h2
          have := hfin h3
          rcases h2 with h5 | h5
          · omega
          · exact h4.2 h5
        · omega
      · rintro e w' ⟨rfl, hw⟩
        exact ⟨rfl, hw ▸ hR, Chg.of_eq' hw⟩
  have h6 : fb = true → ((m.T.length : Nat) : Int) ≤ off + D.length ∧ ((if m.sized then m.final else -1) = -1 ∨ off + D.length = (if m.sized then m.final else -1)) := fun hfb => by
    refine ⟨?_, ?_⟩
    · have : ¬ (off + (D.length : Int) < m.T.length) := fun e => a5 (Or.inr ⟨hfb, e⟩)
      omega
    · by_cases h1 : m.sized = true
      · rw [if_pos h1]; right
        have : ¬ (off + (D.length : Int) ≠ m.final) := fun e => a5 (Or.inl ⟨h1, Or.inr ⟨hfb, e⟩⟩)
        omega
      · rw [if_neg h1]; exact Or.inl rfl
  have h5 : m.sized = true → off + D.length ≤ m.final := fun h1 => by
    have : ¬ m.final < off + D.length := fun e => a5 (Or.inl ⟨h1, Or.inl e⟩)
    omega
  by_cases a8 : m.st < 2
  case neg =>
    have e : mdata m off D fb = (m, 0) := by unfold mdata; rw [if_neg (by omega), if_neg a4, if_neg a5, if_pos a8]
    rw [e, ev]
    have hs1 : m.sized = true := by rw [hsz]; simp; omega
    have hf := hfin hs1
    rw [hs1, if_pos rfl] at hb
    rw [hs1, if_pos rfl] at h6
    cases fb
    · refine (data_7fn g c win m.st m.read (cnt m.T) m.T.length m.final m.told off av D.length dc w hb (by omega) (by omega) (by omega) (by omega) (by omega) (h5 hs1) I.st (by omega) hE.tab hE.t0).mono ?_
      rintro e w' ⟨rfl, hbw⟩
      exact ⟨rfl, hR.below hbw, Chg.of_below hbw⟩
    · refine (data_7tn g c win m.st m.read (cnt m.T) m.T.length m.final m.told off av D.length dc w hb (by omega) (by omega) (by omega) (by omega) (by omega) (h5 hs1) (h6 rfl) I.st (by omega) hE.tab hE.t0).mono ?_
      rintro e w' ⟨rfl, hbw⟩
      exact ⟨rfl, hR.below hbw, Chg.of_below hbw⟩
  case pos =>
    obtain ⟨o, rfl⟩ : ∃ o : Nat, off = (o : Int) := ⟨off.toNat, by omega⟩
    have hto : ((o : Int)).toNat = o := rfl
    obtain ⟨T2, eT2⟩ : ∃ T2, T2 = putF (pad m.T (o + D.length)) o D D.length := ⟨_, rfl⟩
    have hT2l : T2.length = max m.T.length (o + D.length) := by rw [eT2, putF_length, pad_length]
    have KA := keep_all win m.read o D.length D L (pad m.T (o + D.length)) hE.w1 (rr.pad _) (fun p hp => by rw [pad_g]; exact I.low p hp) (by omega) (by rw [pad_length]; omega) D.length (Nat.le_refl _)
    rw [pad_cnt, ← eT2] at KA
    have hrow' := hrow
    have hK : ∀ u : World, Below w.heap.size w u → Calls Tryd.prog 16 #[.pointer (some ⟨g, 0, none⟩), .int .i64 (o : Int), v] u fun e w' => e = .returned (.tuple #[]) ∧ rcB w' g c win m.st m.read (cnt T2 : Nat) (T2.length : Nat) (if m.sized then m.final else -1) m.told ∧ rgB w' c (kfo m.read win o D (L, cnt m.T) D.length).1 ∧ Chg (K2 g c) u w' := by
      intro u hu
      have hb' : rcB u g c win m.st m.read (cnt m.T : Nat) (m.T.length : Nat) (if m.sized then m.final else -1) m.told := (hu.block g (Array.getElem?_eq_some_iff.1 hb).1).trans hb
      have hr' : rgB u c L := hr.below hu
      by_cases h0 : 0 < D.length
      · obtain ⟨b, do', cap, rfl, hbl, hc⟩ := (hrow'.below hu).at h0
        have hne := hap h0 b do' _ cap rfl
        refine (keepI g c win m.st m.read (cnt m.T) o b do' D.length cap m.T.length _ m.told D L u hb' hr' rr.1 hE.w1 hE.w2 hE.hgc rfl (by omega) hc hne.1 hne.2 hbl (by omega) (by omega) (by omega) (by omega)).mono ?_
        rintro e w' ⟨rfl, k1, k2, k3⟩
        rw [KA.1, ← hT2l] at k1
        exact ⟨rfl, k1, k2, k3⟩
      · have hD0 : D = [] := List.eq_nil_of_length_eq_zero (by omega)
        subst hD0
        rw [ev]
        refine (keep0 g c win m.st m.read (cnt m.T) o av dc m.T.length _ m.told u hb' hE.hgc L hr' (by omega) (by omega)).mono ?_
        rintro e w' ⟨rfl, k1, k2, k3⟩
        have e2 : cnt T2 = cnt m.T := by rw [← KA.1]; rfl
        rw [e2, hT2l]
        exact ⟨rfl, k1, k2, k3⟩
    have e : mdata m o D fb = ({ m with st := if wholeM (m.sized || fb) (if fb then (o : Int) + D.length else m.final) T2 then 2 else if fb then 1 else m.st, sized := m.sized || fb, final := if fb then (o : Int) + D.length else m.final, T := T2 }, 0) := by
      unfold mdata
      rw [if_neg (by omega), if_neg a4, if_neg a5, if_neg (by omega), hto, ← eT2]
    rw [e]
    rw [ev] at hK ⊢
    cases fb
    · simp only [Bool.or_false, Bool.false_eq_true, if_false]
      by_cases h1 : m.sized = true
      · have hf := hfin h1
        have hst : m.st = 1 := by have : m.st ≠ 0 := by (rw [h1] at hsz; simpa using hsz.symm)
                                  omega
        rw [h1, if_pos rfl] at hb hK
        refine (data_8fn g c win m.st m.read (cnt m.T) m.T.length (cnt T2) T2.length m.final m.told o av D.length dc _ w hb (by omega) (by omega) (by omega) (by omega) (by omega) (h5 h1) a8 hE.tab hE.t0 hE.hne hE.hgc (by omega) hK).mono ?_
        rintro e w' ⟨rfl, k1, k2, k3⟩
        refine ⟨rfl, ⟨_, ?_, k2, KA.2⟩, k3⟩
        dsimp only
        rw [h1, whole_cnt T2 m.final (by rw [hT2l]; have := h5 h1; omega), if_pos rfl]
        have e3 : (if decide ((cnt T2 : Int) = m.final) = true then 2 else m.st) = (if ((cnt T2 : Nat) : Int) = m.final ∧ m.st = 1 then 2 else m.st) := by
          simp only [decide_eq_true_eq, hst, and_true]
        rw [e3]; exact k1
      · have h1' : m.sized = false := by simpa using h1
        have hst : m.st = 0 := by rw [h1'] at hsz; simpa using hsz.symm
        rw [if_neg h1] at hb hK
        refine (data_8fe g c win m.st m.read (cnt m.T) m.T.length (cnt T2) T2.length (-1) m.told o av D.length dc _ w hb (by omega) (by omega) (by omega) (by omega) rfl a8 hE.tab hE.t0 hE.hne hE.hgc (by omega) hK).mono ?_
        rintro e w' ⟨rfl, k1, k2, k3⟩
        refine ⟨rfl, ⟨_, ?_, k2, KA.2⟩, k3⟩
        dsimp only
        rw [h1', whole_no]
        rw [if_neg (by rintro ⟨h, _⟩; omega)] at k1
        exact k1
    · simp only [Bool.or_true, if_true]
      have h6' := h6 rfl
      have hwh : wholeM true ((o : Int) + D.length) T2 = decide ((cnt T2 : Int) = (o : Int) + D.length) := whole_cnt T2 _ (by rw [hT2l]; omega)
      have hst2 : (if m.st = 0 then 1 else m.st) = 1 := by split <;> omega
      have fin2 : ∀ e w', (e = Ending.returned (.int .i64 0) ∧ rcB w' g c win (if ((cnt T2 : Nat) : Int) = ((o : Int) + D.length) ∧ (if m.st = 0 then 1 else m.st) = 1 then 2 else (if m.st = 0 then 1 else m.st)) m.read (cnt T2 : Nat) (T2.length : Nat) ((o : Int) + D.length) m.told ∧ rgB w' c (kfo m.read win o D (L, cnt m.T) D.length).1 ∧ Chg (K2 g c) w w') →
          e = Ending.returned (.int .i64 0) ∧ Rep w' g c win { m with st := if wholeM true ((o : Int) + D.length) T2 = true then 2 else 1, sized := true, final := (o : Int) + D.length, T := T2 } ∧ Chg (K2 g c) w w' := by
        rintro e w' ⟨rfl, k1, k2, k3⟩
        refine ⟨rfl, ⟨_, ?_, k2, KA.2⟩, k3⟩
        dsimp only
        rw [hwh, if_pos rfl]
        rw [hst2] at k1
        have e3 : (if decide ((cnt T2 : Int) = (o : Int) + D.length) = true then 2 else 1) = (if ((cnt T2 : Nat) : Int) = ((o : Int) + D.length) ∧ 1 = 1 then 2 else 1) := by
          simp only [decide_eq_true_eq, and_true]
        rw [e3]; exact k1
      by_cases h1 : m.sized = true
      · have hf := hfin h1
        rw [h1, if_pos rfl] at hb hK h6'
        exact (data_8tn g c win m.st m.read (cnt m.T) m.T.length (cnt T2) T2.length m.final m.told o av D.length dc _ w hb (by omega) (by omega) (by omega) (by omega) (by omega) (h5 h1) h6' a8 hE.tab hE.t0 hE.hne hE.hgc (by omega) hK).mono fin2
      · rw [if_neg h1] at hb hK h6'
        exact (data_8te g c win m.st m.read (cnt m.T) m.T.length (cnt T2) T2.length (-1) m.told o av D.length dc _ w hb (by omega) (by omega) (by omega) (by omega) rfl h6' a8 hE.tab hE.t0 hE.hne hE.hgc (by omega) hK).mono fin2
theorem resetR (g c win i : Nat) (m : MS) (n : Int) (w : World) (hE : Env w g c win i m) (hR : Rep w g c win m) :
    Calls Tryd.prog 12 #[.pointer (some ⟨g, 0, none⟩), .int .i64 n] w fun e w' => e = .returned (.int .i64 (mreset m n).2) ∧ Rep w' g c win (mreset m n).1 ∧ Chg (K2 g c) w w' := by
  obtain ⟨L, hb, hr, rr⟩ := id hR
  have I := hE.inv
  have hfin := I.fin
  have htt := I.toldT
  refine (resetI g c win m.st m.read (cnt m.T : Nat) (m.T.length : Nat) _ m.told n w I.st hE.tab hE.t0 (fun e => hE.hne (Or.inl e)) hb).mono ?_
  rintro e w' ⟨rfl, k1, k2⟩
  have key : mreset m n = ({ m with st := (rsV m.st (m.T.length : Nat) (if m.sized then m.final else -1) m.told n).2.1, sized := (mreset m n).1.sized, final := (mreset m n).1.final }, (rsV m.st (m.T.length : Nat) (if m.sized then m.final else -1) m.told n).1) ∧ (if (mreset m n).1.sized then (mreset m n).1.final else -1) = (rsV m.st (m.T.length : Nat) (if m.sized then m.final else -1) m.told n).2.2 := by
    unfold mreset rsV
    by_cases a1 : n < 0 ∨ 4611686018427387903 < n
    · rw [if_pos a1, if_pos a1]; exact ⟨rfl, rfl⟩
    rw [if_neg a1, if_neg a1]
    by_cases a2 : m.told < n
    · rw [if_pos a2, if_pos a2]; exact ⟨rfl, rfl⟩
    rw [if_neg a2, if_neg a2]
    by_cases a3 : (m.sized = true ∧ n ≠ m.final) ∨ n < m.T.length
    · have : ¬ (((m.T.length : Nat) : Int) ≤ n ∧ ((if m.sized then m.final else -1) = -1 ∨ n = (if m.sized then m.final else -1))) := by
        rintro ⟨h1, h2⟩
        rcases a3 with ⟨h3, h4⟩ | h3
        · rw [if_pos h3] at h2
          have := hfin h3
          rcases h2 with h5 | h5
          · omega
          · exact h4 h5
        · omega
      rw [if_pos a3, if_pos this]; exact ⟨rfl, rfl⟩
    · have : ¬ ¬ (((m.T.length : Nat) : Int) ≤ n ∧ ((if m.sized then m.final else -1) = -1 ∨ n = (if m.sized then m.final else -1))) := by
        intro h
        apply h
        refine ⟨by have : ¬ (n < m.T.length) := fun e => a3 (Or.inr e); omega, ?_⟩
        by_cases h3 : m.sized = true
        · rw [if_pos h3]; right
          have : ¬ (n ≠ m.final) := fun e => a3 (Or.inl ⟨h3, e⟩)
          omega
        · rw [if_neg h3]; exact Or.inl rfl
      rw [if_neg a3, if_neg this]; exact ⟨rfl, rfl⟩
  obtain ⟨k3, k4⟩ := key
  refine ⟨by rw [k3], ⟨L, ?_, hr.chg k2 hE.hgc, ?_⟩, k2.k2⟩
  · rw [k4]
    have e1 : (mreset m n).1.st = (rsV m.st (m.T.length : Nat) (if m.sized then m.final else -1) m.told n).2.1 := by rw [k3]
    have e2 : (mreset m n).1.read = m.read := by rw [k3]
    have e3 : (mreset m n).1.T = m.T := by rw [k3]
    have e4 : (mreset m n).1.told = m.told := by rw [k3]
    rw [e1, e2, e3, e4]; exact k1
  · have e2 : (mreset m n).1.read = m.read := by rw [k3]
    have e3 : (mreset m n).1.T = m.T := by rw [k3]
    rw [e2, e3]; exact rr
theorem readR (g c win i : Nat) (m : MS) (n : Int) (w : World) (hE : Env w g c win i m) (hR : Rep w g c win m) :
    Calls Tryd.prog 13 #[.pointer (some ⟨g, 0, none⟩), .int .i64 n] w fun e w' => ∃ r, e = .returned (.tuple #[r, .int .i64 (mread win m n).2.2]) ∧ w'.ownsRow w.heap.size 5 1 r (mread win m n).2.1.length ((mread win m n).2.1.map (Value.int .u8)) ∧ Rep w' g c win (mread win m n).1 ∧ Chg (K2 g c) w w' := by
  obtain ⟨L, hb, hr, rr⟩ := id hR
  have I := hE.inv
  have hrd := I.read
  have hct : cnt m.T ≤ m.T.length := List.countP_le_length
  have hcn := I.cnt
  have htd := I.told
  have htt := I.toldT
  have hi4 := hE.i4
  have hw2 := hE.w2
  have hst := I.st
  by_cases a1 : n < 1
  · have e : mread win m n = (m, [], 1) := by unfold mread; rw [if_pos a1]
    rw [e]
    refine (read_bad g n w a1).mono ?_
    rintro e w' ⟨rfl, hw⟩
    subst hw
    exact ⟨_, rfl, World.ownsRow_nil _ _ _ _, hR, chg_of_eq _⟩
  by_cases a2 : 4 ≤ m.st
  · have e : mread win m n = ({ m with st := 5 }, [], 23) := by unfold mread; rw [if_neg a1, if_pos a2]
    rw [e]
    have fin2 : ∀ e w', (e = Ending.returned (.tuple #[.slice none 0 0, .int .i64 23]) ∧ rcB w' g c win 5 m.read (cnt m.T : Nat) (m.T.length : Nat) (if m.sized then m.final else -1) m.told ∧ Chg (· = g) w w') →
        ∃ r, e = .returned (.tuple #[r, .int .i64 23]) ∧ w'.ownsRow w.heap.size 5 1 r 0 (([] : List Int).map (Value.int .u8)) ∧ Rep w' g c win { m with st := 5 } ∧ Chg (K2 g c) w w' := by
      rintro e w' ⟨rfl, k1, k2⟩
      exact ⟨_, rfl, World.ownsRow_nil _ _ _ _, ⟨L, k1, hr.chg k2 hE.hgc, rr⟩, k2.k2⟩
    by_cases a3 : m.st = 4
    · rw [a3] at hb
      exact (read_reset g c win m.read (cnt m.T : Nat) (m.T.length : Nat) _ m.told n w (by omega) hE.tab hE.t0 hb).mono fin2
    · have a4 : m.st = 5 := by omega
      rw [a4] at hb
      exact (read_cut g c win m.read (cnt m.T : Nat) (m.T.length : Nat) _ m.told n w (by omega) hE.tab hE.t0 hb).mono fin2
  refine (readI g c win m.st m.read (cnt m.T) m.T.length _ m.told n L w (by omega) (by omega) hE.tab hE.t0 hE.hne hb hr rr.1 hE.w1 hE.w2 (by omega) hE.hgc (by omega)).mono ?_
  rintro e w' ⟨k, r, rfl, rdy, ow, rg, rc', ch⟩
  have ek : k = rdk m.T m.read n.toNat := rdy_rdk rr (by omega) (by omega) rdy.1 rdy.2.1 rdy.2.2.1 rdy.2.2.2
  have hkT := rdk_len m.T m.read n.toNat hrd.2
  rw [← ek] at hkT
  have hall : ∀ i, i < k → (PL.g m.T (m.read + i)).1 = true := fun i hi => rdk_all m.T m.read n.toNat i (by rw [← ek]; exact hi)
  have eo := shO_out rr hE.w1 rdy.2.1 hall hkT
  rw [eo] at ow
  have em : mread win m n = ({ m with st := if m.st = 2 ∧ ((m.read + k : Nat) : Int) = m.final then 3 else m.st, read := m.read + k, told := if (if m.st = 2 ∧ ((m.read + k : Nat) : Int) = m.final then 3 else m.st) = 0 then cnV ((m.read + k : Nat) : Int) win m.told else m.told }, ((m.T.drop m.read).take k).map (·.2), 0) := by
    unfold mread; rw [if_neg a1, if_neg a2, ← ek]
  rw [em]
  have hlen : (((m.T.drop m.read).take k).map (·.2)).length = k := by simp; omega
  refine ⟨r, rfl, by dsimp only; rw [hlen]; exact ow, ⟨_, ?_, rg, rr.shift hE.w1 rdy.2.1 (by omega)⟩, ch⟩
  dsimp only
  have hsz := I.szd
  have e1 : (if ((m.read : Nat) : Int) + (k : Int) = (if m.sized then m.final else -1) ∧ m.st = 2 then 3 else m.st) = (if m.st = 2 ∧ ((m.read + k : Nat) : Int) = m.final then 3 else m.st) := by
    by_cases h2 : m.st = 2
    · have hs1 : m.sized = true := by rw [hsz, h2]; rfl
      rw [hs1, if_pos rfl]
      simp only [h2, and_true, true_and, Int.natCast_add]
    · simp only [h2, and_false, false_and, if_false]
  have e2 : (if m.st = 0 then cnV (((m.read : Nat) : Int) + (k : Int)) win m.told else m.told) = (if (if m.st = 2 ∧ ((m.read + k : Nat) : Int) = m.final then 3 else m.st) = 0 then cnV ((m.read + k : Nat) : Int) win m.told else m.told) := by
    by_cases h2 : m.st = 2 ∧ ((m.read + k : Nat) : Int) = m.final
    · rw [if_pos h2, if_neg (by omega), if_neg (by decide)]
    · rw [if_neg h2, Int.natCast_add]
  rw [e1, e2] at rc'
  rw [Int.natCast_add]
  rw [Int.natCast_add] at rc'
  exact rc'
end Go.Proofs.YtgifbpongpbjaaaDoor
