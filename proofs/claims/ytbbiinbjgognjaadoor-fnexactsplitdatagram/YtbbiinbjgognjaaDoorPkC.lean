import Derived.Test.YtbbiinbjgognjaaDoorPkI
namespace Go.Proofs.YtbbiinbjgognjaaDoor
open Go.RowKit
set_option linter.unusedVariables false

theorem cell_chg {w w' : World} {S : Nat → Prop} (hc : Chg S w w') {b o : Nat} {v : Value} (h : w.cell? ⟨b, o, none⟩ = some v) (hs : ¬ S b) : w'.cell? ⟨b, o, none⟩ = some v := by
  have hl : b < w.heap.size := by
    rcases Nat.lt_or_ge b w.heap.size with h' | h'
    · exact h'
    · simp [World.cell?, Array.getElem?_eq_none h'] at h
  rw [← h]
  simp only [World.cell?, hc.block b hl hs]
set_option maxRecDepth 20000 in
set_option maxHeartbeats 4000000 in
theorem closC (g bb cb pb : Nat) (ao : Option Addr) (n cap : Nat) (cl : Int) (xs : List Int) (w : World) (ht : Tab w) (hL : TabL w) (hbb : w.cell? ⟨bb, 0, none⟩ = some (.slice ao n cap)) (hcb : w.cell? ⟨cb, 0, none⟩ = some (.int .i64 cl))
    (h : rdB w g (.slice ao n cap) 0) (hk : pkB w pb 0 0 (.slice none 0 0) (.slice none 0 0) (.slice none 0 0) (.slice none 0 0) 0 0) (hlie : n = 0 ∨ ∃ b off, ao = some ⟨b, off, none⟩ ∧ Lies w b off n cap xs ∧ b ≠ g ∧ b ≠ pb)
    (hlen : xs.length = n) (hB : Bytes xs) (hgp : pb ≠ g) (hcg : cb ≠ g) (hn : n ≤ 9223372036854775807) (hS1 : ¬ SG g pb 2) (hS2 : ¬ SG g pb 1) :
    Calls Tryd.prog 42 #[.pointer (some ⟨g, 0, none⟩), .pointer (some ⟨bb, 0, none⟩), .pointer (some ⟨cb, 0, none⟩), .pointer (some ⟨pb, 0, none⟩)] w fun e w' => Chg (SG g pb) w w' ∧ ((∃ c, pk xs cl = .error c ∧ e = .panicked [leftP c]) ∨
      ∃ K, pk xs cl = .ok K ∧ e = .returned (.tuple #[]) ∧ LRes w.heap.size w' pb K) := by
  by_cases a1 : 65536 < n
  · have e : pk xs cl = .error 4 := by unfold pk; rw [if_pos (by omega)]
    have HE : Hid _ := And.intro e True.intro
    replace a1 : decide ((65536 : Int) < (n : Int)) = true := decide_eq_true (by omega)
    clear e ht hL h hk hlie hlen hB
    go_enter Tryd.func42, Tryd.ntmps42
    go_wp2_with fail
    go_at_call 43
    refine (leaveIf_t _ 4 _).mono ?_
    rintro e w1 ⟨rfl, hw1⟩
    rw [hw1]; clear hw1 w1
    go_wp2_with fail
    exact ⟨rfl, Chg.refl _ _, Or.inl ⟨4, HE.out.1, rfl⟩⟩
  have a1' : decide ((65536 : Int) < (n : Int)) = false := decide_eq_false (by omega)
  by_cases a2 : 0 ≤ cl ∧ cl ≤ 8
  case neg =>
    have e : pk xs cl = .error 1 := by unfold pk; rw [if_neg (by omega), if_pos a2]
    have HE : Hid _ := And.intro e True.intro
    have hv := vcl_n cl w a2
    clear e ht hL h hk hlie hlen hB a1 a2
    go_enter Tryd.func42, Tryd.ntmps42
    go_wp2_with fail
    go_at_call 43
    refine (leaveIf_f _ 4 _).mono ?_
    rintro e w1 ⟨rfl, hw1⟩
    rw [hw1]; clear hw1 w1
    go_wp2_with fail
    go_at_call 44
    refine hv.mono ?_
    rintro e w1 ⟨rfl, hw1⟩
    rw [hw1]; clear hw1 w1
    go_wp2_with fail
    go_at_call 43
    refine (leaveIf_t _ 1 _).mono ?_
    rintro e w1 ⟨rfl, hw1⟩
    rw [hw1]; clear hw1 w1
    go_wp2_with fail
    exact ⟨rfl, Chg.refl _ _, Or.inl ⟨1, HE.out.1, rfl⟩⟩
  have hv := vcl_y cl w a2
  by_cases a3 : n < 1
  · have e : pk xs cl = .error 2 := by unfold pk; rw [if_neg (by omega), if_neg (by omega), if_pos (by omega)]
    have HE : Hid _ := And.intro e True.intro
    have hno := number_no g ao n cap 0 1 w h ⟨by omega, by omega⟩ hn (by omega)
    clear e ht hL h hk hlie hlen hB a1 a2 a3
    go_enter Tryd.func42, Tryd.ntmps42
    go_wp2_with fail
    go_at_call 43
    refine (leaveIf_f _ 4 _).mono ?_
    rintro e w1 ⟨rfl, hw1⟩
    rw [hw1]; clear hw1 w1
    go_wp2_with fail
    go_at_call 44
    refine hv.mono ?_
    rintro e w1 ⟨rfl, hw1⟩
    rw [hw1]; clear hw1 w1
    go_wp2_with fail
    go_at_call 43
    refine (leaveIf_f _ 1 _).mono ?_
    rintro e w1 ⟨rfl, hw1⟩
    rw [hw1]; clear hw1 w1
    go_wp2_with fail
    go_at_call 45
    refine hno.mono ?_
    rintro e w1 ⟨rfl, c1⟩
    go_wp2_with fail
    exact ⟨rfl, c1.toG, Or.inl ⟨2, HE.out.1, rfl⟩⟩
  obtain ⟨b, off, rfl, hl, hgb, hbp⟩ : ∃ b off, ao = some ⟨b, off, none⟩ ∧ Lies w b off n cap xs ∧ b ≠ g ∧ b ≠ pb := by
    rcases hlie with h0 | h0
    · omega
    · exact h0
  have hnm := number_ok g b off n cap 0 1 xs w h hl hB hgb (by omega) (by omega) (by decide) (by decide)
  have hfb := numK_lt xs hB 0 1 (by decide)
  have hf255 : vals (sub xs 0 1) < 256 := by
    have h1 := vals_lt (sub xs 0 1) (sub_bytes hB 0 1)
    rw [sub_len xs 0 1 (by omega)] at h1
    simpa using h1
  have eP : pk xs cl = if vals (sub xs 0 1) < 64 then .error 3 else if vals (sub xs 0 1) < 128 then pkShP xs cl else pkLong xs (vals (sub xs 0 1)) := by
    unfold pk; rw [if_neg (by omega), if_neg (by omega), if_neg (by omega)]
  obtain ⟨F, hF⟩ : ∃ F, F = vals (sub xs 0 1) := ⟨_, rfl⟩
  rw [← hF] at hnm hfb hf255 eP
  have hw8 : IntKind.u8.wrap F = F := by rw [IntKind.wrap_u8]; omega
  have HP : Hid _ := And.intro eP (And.intro ht (And.intro hL (And.intro hk (And.intro hl (And.intro hB (And.intro hgb (And.intro hbp (And.intro hgp (And.intro hS1 (And.intro hS2 (And.intro hlen (And.intro a1 (And.intro a2 (And.intro a3 (And.intro hcb (And.intro hcg (And.intro hfb hf255)))))))))))))))))
  clear eP ht hL h hk hlie hlen hB a1 a2 a3 hl hgb hbp hgp hS1 hS2 hF hcg
  by_cases b1 : F < 64
  · have d1 : decide (F < 64) = true := decide_eq_true b1
    have HQ : Hid _ := And.intro (HP.out.1.trans (if_pos b1)) True.intro
    clear b1 hfb hf255
    go_enter Tryd.func42, Tryd.ntmps42
    go_wp2_with fail
    go_at_call 43
    refine (leaveIf_f _ 4 _).mono ?_
    rintro e w1 ⟨rfl, hw1⟩
    rw [hw1]; clear hw1 w1
    go_wp2_with fail
    go_at_call 44
    refine hv.mono ?_
    rintro e w1 ⟨rfl, hw1⟩
    rw [hw1]; clear hw1 w1
    go_wp2_with fail
    go_at_call 43
    refine (leaveIf_f _ 1 _).mono ?_
    rintro e w1 ⟨rfl, hw1⟩
    rw [hw1]; clear hw1 w1
    go_wp2_with fail
    go_at_call 45
    refine hnm.mono ?_
    rintro e w1 ⟨rfl, r1, c1⟩
    go_wp2_with fail
    go_at_call 43
    refine (leaveIf_t _ 3 _).mono ?_
    rintro e w2 ⟨rfl, hw2⟩
    rw [hw2]; clear hw2 w2
    go_wp2_with fail
    exact ⟨rfl, c1.toG, Or.inl ⟨3, HQ.out.1, rfl⟩⟩
  have d1 : decide (F < 64) = false := decide_eq_false b1
  have hsh : ∀ wx, _ := fun wx => shortB F wx (by omega)
  by_cases b2 : F < 128
  · have d2 : decide (F < 128) = true := decide_eq_true b2
    rw [d2] at hsh
    have HQ : Hid _ := And.intro ((HP.out.1.trans (if_neg b1)).trans (if_pos b2)) True.intro
    obtain ⟨m, hm⟩ : ∃ m : Nat, cl = (m : Int) := ⟨cl.toNat, by have := HP.out.2.2.2.2.2.2.2.2.2.2.2.2.2.1; omega⟩
    subst hm
    clear b1 b2 hfb hf255 d2
    go_enter Tryd.func42, Tryd.ntmps42
    go_wp2_with fail
    go_at_call 43
    refine (leaveIf_f _ 4 _).mono ?_
    rintro e w1 ⟨rfl, hw1⟩
    rw [hw1]; clear hw1 w1
    go_wp2_with fail
    go_at_call 44
    refine hv.mono ?_
    rintro e w1 ⟨rfl, hw1⟩
    rw [hw1]; clear hw1 w1
    go_wp2_with fail
    go_at_call 43
    refine (leaveIf_f _ 1 _).mono ?_
    rintro e w1 ⟨rfl, hw1⟩
    rw [hw1]; clear hw1 w1
    go_wp2_with fail
    go_at_call 45
    refine hnm.mono ?_
    rintro e w1 ⟨rfl, r1, c1⟩
    have xc := cell_chg c1 HP.out.2.2.2.2.2.2.2.2.2.2.2.2.2.2.2.1 HP.out.2.2.2.2.2.2.2.2.2.2.2.2.2.2.2.2.1
    have hS := shortRC g pb b off n cap 1 m xs 0 0 _ _ _ _ 0 0 w1 r1 (HP.out.2.2.2.1.chg c1 HP.out.2.2.2.2.2.2.2.2.1) (HP.out.2.2.2.2.1.chg c1 HP.out.2.2.2.2.2.2.1) HP.out.2.2.2.2.2.2.1 HP.out.2.2.2.2.2.2.2.2.1 HP.out.2.2.2.2.2.2.2.1 (by have := HP.out.2.2.2.2.2.2.2.2.2.2.2.2.1; omega) (by have := HP.out.2.2.2.2.2.2.2.2.2.2.2.2.2.2.1; omega) (by have := HP.out.2.2.2.2.2.2.2.2.2.2.2.2.2.1; omega)
    have HC : Hid _ := And.intro c1 True.intro
    clear r1 c1
    go_wp2_with fail
    go_at_call 43
    refine (leaveIf_f _ 3 _).mono ?_
    rintro e w2 ⟨rfl, hw2⟩
    rw [hw2]; clear hw2 w2
    go_wp2_with fail
    go_at_call 46
    refine (hsh _).mono ?_
    rintro e w2 ⟨rfl, hw2⟩
    rw [hw2]; clear hw2 w2
    go_wp2_with fail
    go_at_call 47
    refine hS.mono ?_
    rintro e w2 ⟨c2, ⟨c, hce, rfl⟩ | ⟨d, q, vd, hce, rfl, k2, o2, hd8, hq1, hq2⟩⟩
    · go_wp2_with fail
      exact ⟨rfl, HC.out.1.toG.trans c2, Or.inl ⟨c, by rw [HQ.out.1]; unfold pkShP; rw [Int.toNat_natCast, hce], rfl⟩⟩
    · go_wp2_with fail
      first | go_end0 | refine bodyPost_ret (results_none rfl _ _ _) rfl ?_
      refine ⟨HC.out.1.toG.trans c2, Or.inr ⟨⟨4, 0, d, [], [], [], q, xs.length⟩, by rw [HQ.out.1]; unfold pkShP; rw [Int.toNat_natCast, hce], rfl, ?_⟩⟩
      exact ⟨_, _, _, _, by rw [HP.out.2.2.2.2.2.2.2.2.2.2.2.1]; exact k2, ⟨owns_mono o2 HC.out.1.size, World.ownsRow_nil _ _ _ _, World.ownsRow_nil _ _ _ _, apart_nil _, apart_nil _, apart_nil _⟩, World.ownsRow_nil _ _ _ _⟩
  · have d2 : decide (F < 128) = false := decide_eq_false b2
    rw [d2] at hsh
    have HQ : Hid _ := And.intro ((HP.out.1.trans (if_neg b1)).trans (if_neg b2)) True.intro
    clear b1 b2 hfb hf255 d2
    go_enter Tryd.func42, Tryd.ntmps42
    go_wp2_with fail
    go_at_call 43
    refine (leaveIf_f _ 4 _).mono ?_
    rintro e w1 ⟨rfl, hw1⟩
    rw [hw1]; clear hw1 w1
    go_wp2_with fail
    go_at_call 44
    refine hv.mono ?_
    rintro e w1 ⟨rfl, hw1⟩
    rw [hw1]; clear hw1 w1
    go_wp2_with fail
    go_at_call 43
    refine (leaveIf_f _ 1 _).mono ?_
    rintro e w1 ⟨rfl, hw1⟩
    rw [hw1]; clear hw1 w1
    go_wp2_with fail
    go_at_call 45
    refine hnm.mono ?_
    rintro e w1 ⟨rfl, r1, c1⟩
    have hLo := longRC g pb b off n cap xs F w1 (HP.out.2.1.chg c1.toG HP.out.2.2.2.2.2.2.2.2.2.1) (HP.out.2.2.1.chg c1.toG HP.out.2.2.2.2.2.2.2.2.2.2.1) r1 (HP.out.2.2.2.1.chg c1 HP.out.2.2.2.2.2.2.2.2.1) (HP.out.2.2.2.2.1.chg c1 HP.out.2.2.2.2.2.2.1) HP.out.2.2.2.2.2.1 HP.out.2.2.2.2.2.2.1 HP.out.2.2.2.2.2.2.2.2.1 HP.out.2.2.2.2.2.2.2.1 (by have := HP.out.2.2.2.2.2.2.2.2.2.2.2.2.1; omega) (by have := HP.out.2.2.2.2.2.2.2.2.2.2.2.2.2.2.1; omega) HP.out.2.2.2.2.2.2.2.2.2.2.2.2.2.2.2.2.2.1.1 HP.out.2.2.2.2.2.2.2.2.2.2.2.2.2.2.2.2.2.2 HP.out.2.2.2.2.2.2.2.2.2.1 HP.out.2.2.2.2.2.2.2.2.2.2.1
    have HC : Hid _ := And.intro c1 True.intro
    clear r1 c1
    go_wp2_with fail
    go_at_call 43
    refine (leaveIf_f _ 3 _).mono ?_
    rintro e w2 ⟨rfl, hw2⟩
    rw [hw2]; clear hw2 w2
    go_wp2_with fail
    go_at_call 46
    refine (hsh _).mono ?_
    rintro e w2 ⟨rfl, hw2⟩
    rw [hw2]; clear hw2 w2
    go_wp2_with fail
    go_at_call 48
    refine hLo.mono ?_
    rintro e w2 ⟨c2, ⟨c, hce, rfl⟩ | ⟨K, hce, rfl, k2⟩⟩
    · go_wp2_with fail
      exact ⟨rfl, HC.out.1.toG.trans c2, Or.inl ⟨c, HQ.out.1.trans hce, rfl⟩⟩
    · go_wp2_with fail
      first | go_end0 | refine bodyPost_ret (results_none rfl _ _ _) rfl ?_
      refine ⟨HC.out.1.toG.trans c2, Or.inr ⟨K, HQ.out.1.trans hce, rfl, ?_⟩⟩
      obtain ⟨vd, vs, vt, vv, q1, q2, q3⟩ := k2
      exact ⟨vd, vs, vt, vv, q1, ⟨owns_mono q2.o0 HC.out.1.size, owns_mono q2.o1 HC.out.1.size, owns_mono q2.o2 HC.out.1.size, q2.a01, q2.a02, q2.a12⟩, owns_mono q3 HC.out.1.size⟩
end Go.Proofs.YtbbiinbjgognjaaDoor
