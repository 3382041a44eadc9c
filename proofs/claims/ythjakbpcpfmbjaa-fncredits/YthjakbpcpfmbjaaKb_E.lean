import Derived.Test.YthjakbpcpfmbjaaKb_A
import Derived.Test.YthjakbpcpfmbjaaKb_J
import Derived.Deep.Cut
import Derived.Deep.CutRange
import Derived.Test.YthjakbpcpfmbjaaKb_C
import Derived.Deep.LoopGhost
namespace Go.Proofs.Ythjakbpcpfmbjaa
open Go.RowKit
set_option linter.unusedVariables false
set_option linter.unusedSimpArgs false

set_option maxRecDepth 20000 in
set_option maxHeartbeats 4000000 in
theorem setupM (F : FS) (w : World) : Calls Try.prog 17 #[fsV F] w fun e w' => e = .returned (.bool (fsOK F)) ∧ Below w.heap.size w w' := by
  obtain ⟨sv, cw, sw, tw, ow, pc, ps, pt, po⟩ := F
  unfold fsV
  dsimp only
  have V1 := fun u => varFx pc u
  have V2 := fun u => varFx ps u
  have hB : Below w.heap.size w (w.alloc (.cells #[.bool sv, .int .i64 cw, .int .i64 sw, .int .i64 tw, .int .i64 ow, .int .i64 pc, .int .i64 ps, .int .i64 pt, .int .i64 po] 24)) := (Below.refl _ _).alloc (Nat.le_refl _) _
  have HB : Hid _ := hB
  have HV : Hid _ := And.intro V1 V2
  clear V1 V2 hB
  obtain ⟨b, eb⟩ : ∃ b, b = decide (1 ≤ cw ∧ cw ≤ 16384 ∧ 1 ≤ sw ∧ sw ≤ 16384 ∧ 0 ≤ tw ∧ tw ≤ 64 ∧ 0 ≤ ow ∧ ow ≤ 64 ∧ 0 ≤ pc ∧ pc ≤ 4611686018427387903 ∧ 0 ≤ ps ∧ ps ≤ 4611686018427387903 ∧ 0 ≤ pt ∧ pt ≤ 1152921504606846976 ∧ 0 ≤ po ∧ po ≤ 1152921504606846976) := ⟨_, rfl⟩
  rw [show fsOK ⟨sv, cw, sw, tw, ow, pc, ps, pt, po⟩ = decide (1 ≤ cw ∧ cw ≤ 16384 ∧ 1 ≤ sw ∧ sw ≤ 16384 ∧ 0 ≤ tw ∧ tw ≤ 64 ∧ 0 ≤ ow ∧ ow ≤ 64 ∧ 0 ≤ pc ∧ pc ≤ 4611686018427387903 ∧ 0 ≤ ps ∧ ps ≤ 4611686018427387903 ∧ 0 ≤ pt ∧ pt ≤ 1152921504606846976 ∧ 0 ≤ po ∧ po ≤ 1152921504606846976) from rfl, ← eb]
  obtain ⟨bA, ebA⟩ : ∃ b, b = decide (1 ≤ cw ∧ cw ≤ 16384 ∧ 1 ≤ sw ∧ sw ≤ 16384) := ⟨_, rfl⟩
  obtain ⟨bB, ebB⟩ : ∃ b, b = decide (0 ≤ tw ∧ tw ≤ 64 ∧ 0 ≤ ow ∧ ow ≤ 64) := ⟨_, rfl⟩
  have HE : Hid _ := eb
  have HA : Hid _ := ebA
  have HC : Hid _ := ebB
  clear eb ebA ebB
  go_enter Try.func17, Try.ntmps17
  go_upto_region 1 with fail
  go_cut [3] from 5 to 22 (fun v wx => v = .bool bA ∧ wx = w.alloc (.cells #[.bool sv, .int .i64 cw, .int .i64 sw, .int .i64 tw, .int .i64 ow, .int .i64 pc, .int .i64 ps, .int .i64 pt, .int .i64 po] 24))
  case first =>
    by_cases h0 : 1 ≤ cw
    case neg =>
      have HF : Hid _ := (HA.out.trans (decide_eq_false (by omega)) : bA = false)
      have d0 : decide (1 ≤ cw) = false := decide_eq_false h0
      go_wp2
      go_meet
      exact ⟨by rw [HF.out], rfl⟩
    by_cases h1 : cw ≤ 16384
    case neg =>
      have HF : Hid _ := (HA.out.trans (decide_eq_false (by omega)) : bA = false)
      have d0 : decide (1 ≤ cw) = true := decide_eq_true h0
      have d1 : decide (cw ≤ 16384) = false := decide_eq_false h1
      go_wp2
      go_meet
      exact ⟨by rw [HF.out], rfl⟩
    by_cases h2 : 1 ≤ sw
    case neg =>
      have HF : Hid _ := (HA.out.trans (decide_eq_false (by omega)) : bA = false)
      have d0 : decide (1 ≤ cw) = true := decide_eq_true h0
      have d1 : decide (cw ≤ 16384) = true := decide_eq_true h1
      have d2 : decide (1 ≤ sw) = false := decide_eq_false h2
      go_wp2
      go_meet
      exact ⟨by rw [HF.out], rfl⟩
    by_cases h3 : sw ≤ 16384
    case neg =>
      have HF : Hid _ := (HA.out.trans (decide_eq_false (by omega)) : bA = false)
      have d0 : decide (1 ≤ cw) = true := decide_eq_true h0
      have d1 : decide (cw ≤ 16384) = true := decide_eq_true h1
      have d2 : decide (1 ≤ sw) = true := decide_eq_true h2
      have d3 : decide (sw ≤ 16384) = false := decide_eq_false h3
      go_wp2
      go_meet
      exact ⟨by rw [HF.out], rfl⟩
    have HF : Hid _ := (HA.out.trans (decide_eq_true (by omega)) : bA = true)
    have d0 : decide (1 ≤ cw) = true := decide_eq_true h0
    have d1 : decide (cw ≤ 16384) = true := decide_eq_true h1
    have d2 : decide (1 ≤ sw) = true := decide_eq_true h2
    have d3 : decide (sw ≤ 16384) = true := decide_eq_true h3
    go_wp2
    go_meet
    exact ⟨by rw [HF.out], rfl⟩
  case rest =>
  obtain ⟨rfl, rfl⟩ := hcut
  go_upto_region 2 with fail
  go_cut [4] from 23 to 40 (fun v wx => v = .bool bB ∧ wx = w.alloc (.cells #[.bool sv, .int .i64 cw, .int .i64 sw, .int .i64 tw, .int .i64 ow, .int .i64 pc, .int .i64 ps, .int .i64 pt, .int .i64 po] 24))
  case first =>
    by_cases h0 : 0 ≤ tw
    case neg =>
      have HF : Hid _ := (HC.out.trans (decide_eq_false (by omega)) : bB = false)
      have d0 : decide (0 ≤ tw) = false := decide_eq_false h0
      go_wp2
      go_meet
      exact ⟨by rw [HF.out], rfl⟩
    by_cases h1 : tw ≤ 64
    case neg =>
      have HF : Hid _ := (HC.out.trans (decide_eq_false (by omega)) : bB = false)
      have d0 : decide (0 ≤ tw) = true := decide_eq_true h0
      have d1 : decide (tw ≤ 64) = false := decide_eq_false h1
      go_wp2
      go_meet
      exact ⟨by rw [HF.out], rfl⟩
    by_cases h2 : 0 ≤ ow
    case neg =>
      have HF : Hid _ := (HC.out.trans (decide_eq_false (by omega)) : bB = false)
      have d0 : decide (0 ≤ tw) = true := decide_eq_true h0
      have d1 : decide (tw ≤ 64) = true := decide_eq_true h1
      have d2 : decide (0 ≤ ow) = false := decide_eq_false h2
      go_wp2
      go_meet
      exact ⟨by rw [HF.out], rfl⟩
    by_cases h3 : ow ≤ 64
    case neg =>
      have HF : Hid _ := (HC.out.trans (decide_eq_false (by omega)) : bB = false)
      have d0 : decide (0 ≤ tw) = true := decide_eq_true h0
      have d1 : decide (tw ≤ 64) = true := decide_eq_true h1
      have d2 : decide (0 ≤ ow) = true := decide_eq_true h2
      have d3 : decide (ow ≤ 64) = false := decide_eq_false h3
      go_wp2
      go_meet
      exact ⟨by rw [HF.out], rfl⟩
    have HF : Hid _ := (HC.out.trans (decide_eq_true (by omega)) : bB = true)
    have d0 : decide (0 ≤ tw) = true := decide_eq_true h0
    have d1 : decide (tw ≤ 64) = true := decide_eq_true h1
    have d2 : decide (0 ≤ ow) = true := decide_eq_true h2
    have d3 : decide (ow ≤ 64) = true := decide_eq_true h3
    go_wp2
    go_meet
    exact ⟨by rw [HF.out], rfl⟩
  case rest =>
  obtain ⟨rfl, rfl⟩ := hcut
  cases bA
  case false =>
    have g0 : ¬ (1 ≤ cw ∧ cw ≤ 16384 ∧ 1 ≤ sw ∧ sw ≤ 16384) := of_decide_eq_false HA.out.symm
    have HP : Hid _ := HV.out
    cases bB
    · skip
      have HF : Hid _ := (HE.out.trans (decide_eq_false (by omega)) : b = false)
      go_wp2_with (first | (go_at_call 27; first | (refine (HP.out.1 _).mono ?_; rintro e w1 ⟨rfl, hw1⟩; subst hw1) | (refine (HP.out.2 _).mono ?_; rintro e w1 ⟨rfl, hw1⟩; subst hw1)))
      go_ret
      exact ⟨by rw [HF.out]; rfl, HB.out⟩
    · skip
      have HF : Hid _ := (HE.out.trans (decide_eq_false (by omega)) : b = false)
      go_wp2_with (first | (go_at_call 27; first | (refine (HP.out.1 _).mono ?_; rintro e w1 ⟨rfl, hw1⟩; subst hw1) | (refine (HP.out.2 _).mono ?_; rintro e w1 ⟨rfl, hw1⟩; subst hw1)))
      go_ret
      exact ⟨by rw [HF.out]; rfl, HB.out⟩
  have g0 : 1 ≤ cw ∧ cw ≤ 16384 ∧ 1 ≤ sw ∧ sw ≤ 16384 := of_decide_eq_true HA.out.symm
  cases bB
  case false =>
    have g1 : ¬ (0 ≤ tw ∧ tw ≤ 64 ∧ 0 ≤ ow ∧ ow ≤ 64) := of_decide_eq_false HC.out.symm
    have HP : Hid _ := HV.out
    have HF : Hid _ := (HE.out.trans (decide_eq_false (by omega)) : b = false)
    go_wp2_with (first | (go_at_call 27; first | (refine (HP.out.1 _).mono ?_; rintro e w1 ⟨rfl, hw1⟩; subst hw1) | (refine (HP.out.2 _).mono ?_; rintro e w1 ⟨rfl, hw1⟩; subst hw1)))
    go_ret
    exact ⟨by rw [HF.out]; rfl, HB.out⟩
  have g1 : 0 ≤ tw ∧ tw ≤ 64 ∧ 0 ≤ ow ∧ ow ≤ 64 := of_decide_eq_true HC.out.symm
  by_cases g2 : 0 ≤ pc ∧ pc ≤ 4611686018427387903
  case neg =>
    have HP : Hid _ := HV.out
    rw [decide_eq_false g2] at HP
    have HF : Hid _ := (HE.out.trans (decide_eq_false (by omega)) : b = false)
    go_wp2_with (first | (go_at_call 27; first | (refine (HP.out.1 _).mono ?_; rintro e w1 ⟨rfl, hw1⟩; subst hw1) | (refine (HP.out.2 _).mono ?_; rintro e w1 ⟨rfl, hw1⟩; subst hw1)))
    go_ret
    exact ⟨by rw [HF.out]; rfl, HB.out⟩
  rw [decide_eq_true g2] at HV
  by_cases g3 : 0 ≤ ps ∧ ps ≤ 4611686018427387903
  case neg =>
    have HP : Hid _ := HV.out
    rw [decide_eq_false g3] at HP
    have HF : Hid _ := (HE.out.trans (decide_eq_false (by omega)) : b = false)
    go_wp2_with (first | (go_at_call 27; first | (refine (HP.out.1 _).mono ?_; rintro e w1 ⟨rfl, hw1⟩; subst hw1) | (refine (HP.out.2 _).mono ?_; rintro e w1 ⟨rfl, hw1⟩; subst hw1)))
    go_ret
    exact ⟨by rw [HF.out]; rfl, HB.out⟩
  rw [decide_eq_true g3] at HV
  have HP : Hid _ := HV.out
  by_cases p0 : 0 ≤ pt
  case neg =>
    have HF : Hid _ := (HE.out.trans (decide_eq_false (by omega)) : b = false)
    have d0 : decide (0 ≤ pt) = false := decide_eq_false p0
    go_wp2_with (first | (go_at_call 27; first | (refine (HP.out.1 _).mono ?_; rintro e w1 ⟨rfl, hw1⟩; subst hw1) | (refine (HP.out.2 _).mono ?_; rintro e w1 ⟨rfl, hw1⟩; subst hw1)))
    go_ret
    exact ⟨by rw [HF.out]; rfl, HB.out⟩
  by_cases p1 : pt ≤ 1152921504606846976
  case neg =>
    have HF : Hid _ := (HE.out.trans (decide_eq_false (by omega)) : b = false)
    have d0 : decide (0 ≤ pt) = true := decide_eq_true p0
    have d1 : decide (pt ≤ 1152921504606846976) = false := decide_eq_false p1
    go_wp2_with (first | (go_at_call 27; first | (refine (HP.out.1 _).mono ?_; rintro e w1 ⟨rfl, hw1⟩; subst hw1) | (refine (HP.out.2 _).mono ?_; rintro e w1 ⟨rfl, hw1⟩; subst hw1)))
    go_ret
    exact ⟨by rw [HF.out]; rfl, HB.out⟩
  by_cases p2 : 0 ≤ po
  case neg =>
    have HF : Hid _ := (HE.out.trans (decide_eq_false (by omega)) : b = false)
    have d0 : decide (0 ≤ pt) = true := decide_eq_true p0
    have d1 : decide (pt ≤ 1152921504606846976) = true := decide_eq_true p1
    have d2 : decide (0 ≤ po) = false := decide_eq_false p2
    go_wp2_with (first | (go_at_call 27; first | (refine (HP.out.1 _).mono ?_; rintro e w1 ⟨rfl, hw1⟩; subst hw1) | (refine (HP.out.2 _).mono ?_; rintro e w1 ⟨rfl, hw1⟩; subst hw1)))
    go_ret
    exact ⟨by rw [HF.out]; rfl, HB.out⟩
  by_cases p3 : po ≤ 1152921504606846976
  case neg =>
    have HF : Hid _ := (HE.out.trans (decide_eq_false (by omega)) : b = false)
    have d0 : decide (0 ≤ pt) = true := decide_eq_true p0
    have d1 : decide (pt ≤ 1152921504606846976) = true := decide_eq_true p1
    have d2 : decide (0 ≤ po) = true := decide_eq_true p2
    have d3 : decide (po ≤ 1152921504606846976) = false := decide_eq_false p3
    go_wp2_with (first | (go_at_call 27; first | (refine (HP.out.1 _).mono ?_; rintro e w1 ⟨rfl, hw1⟩; subst hw1) | (refine (HP.out.2 _).mono ?_; rintro e w1 ⟨rfl, hw1⟩; subst hw1)))
    go_ret
    exact ⟨by rw [HF.out]; rfl, HB.out⟩
  have HF : Hid _ := (HE.out.trans (decide_eq_true (by omega)) : b = true)
  have d0 : decide (0 ≤ pt) = true := decide_eq_true p0
  have d1 : decide (pt ≤ 1152921504606846976) = true := decide_eq_true p1
  have d2 : decide (0 ≤ po) = true := decide_eq_true p2
  have d3 : decide (po ≤ 1152921504606846976) = true := decide_eq_true p3
  go_wp2_with (first | (go_at_call 27; first | (refine (HP.out.1 _).mono ?_; rintro e w1 ⟨rfl, hw1⟩; subst hw1) | (refine (HP.out.2 _).mono ?_; rintro e w1 ⟨rfl, hw1⟩; subst hw1)))
  go_ret
  exact ⟨by rw [HF.out]; rfl, HB.out⟩
end Go.Proofs.Ythjakbpcpfmbjaa

namespace Go.Proofs.Ythjakbpcpfmbjaa
open Go.RowKit
set_option linter.unusedVariables false
set_option linter.unusedSimpArgs false

set_option maxRecDepth 20000 in
set_option maxHeartbeats 4000000 in
theorem newM (F : FS) (w : World) : Calls Try.prog 18 #[fsV F] w fun e w' => ∃ x, e = .returned (.pointer (some ⟨x, 0, none⟩)) ∧ MRep w' x w.heap.size F (fx0 F) ∧ Below w.heap.size w w' := by
  unfold fsV
  go_enter Try.func18, Try.ntmps18
  go_wp2
  go_region
  go_wp2
  go_region
  go_wp2
  go_region
  go_wp2
  go_region
  go_wp2
  go_ret
  obtain ⟨sv, cw, sw, tw, ow, pc, ps, pt, po⟩ := F
  refine ⟨w.heap.size + 1, rfl, ⟨.slice none 0 0, ?_, ⟨[], World.ownsRow_nil _ _ _ _, fun j hj => by simp [fx0] at hj⟩, by omega⟩, bdr (bdr (bdr (bdr (((Below.refl _ _).alloc (Nat.le_refl _) _).alloc (by simp) _))))⟩
  have z := fun o1 o2 => heap_alloc_new (w.alloc o1) o2
  have hs : ∀ o1, (w.alloc o1).heap.size = w.heap.size + 1 := fun o1 => by simp
  simp only [hs] at z
  exact z _ _
end Go.Proofs.Ythjakbpcpfmbjaa

namespace Go.Proofs.Ythjakbpcpfmbjaa
open Go.RowKit
set_option linter.unusedVariables false
set_option linter.unusedSimpArgs false

/-- The answers so far, of one's own, each with its frames. -/
structure NOU (w : World) (base : Nat) (v : Value) (Y : List FO) (U : Nat → Value) : Prop where
  g : GOwns 35 4 w base v (zl FO.c Y U)
  f : ∀ j, j < Y.length → GOwns 38 8 w base (U j) ((Y.getD j default).fr.map frC)
  a : ∀ (i j : Nat), i < j → j < Y.length → ∀ k, (U j).ownBlock = some k → some k ≠ (U i).ownBlock
theorem NOU.owns {w : World} {base : Nat} {v : Value} {Y : List FO} {U : Nat → Value} (h : NOU w base v Y U) : NOwns w base v Y := ⟨U, h.g, h.f, h.a⟩
theorem foc_one (y : FO) {u : Value} (hu : u.oneCell' = true) : ∀ v ∈ y.c u, v.oneCell' = true := by
  intro v hv
  unfold FO.c at hv
  simp only [List.mem_cons, List.not_mem_nil, or_false] at hv
  rcases hv with rfl | rfl | rfl | rfl
  · rfl
  · rfl
  · rfl
  · exact hu
theorem NOU.flat {w : World} {base : Nat} {v : Value} {Y : List FO} {U : Nat → Value} (h : NOU w base v Y U) : FlatK 4 (zl FO.c Y U) := fun x hx => by
  unfold zl at hx
  obtain ⟨j, hj, rfl⟩ := List.mem_map.1 hx
  obtain ⟨a, n, c, e, _⟩ := slice_form (h.f j (List.mem_range.1 hj))
  exact ⟨rfl, foc_one _ (by rw [e]; rfl)⟩
theorem NOU.ch {w w' : World} {base b : Nat} {v : Value} {Y : List FO} {U : Nat → Value} (h : NOU w base v Y U) (hc : MCh b w w') : NOU w' base v Y U := ⟨GOwns.ch hc h.g (by decide), fun j hj => GOwns.ch hc (h.f j hj) (by decide), h.a⟩
theorem NOU.below {w w' : World} {base : Nat} {v : Value} {Y : List FO} {U : Nat → Value} (h : NOU w base v Y U) (hb : Below w.heap.size w w') : NOU w' base v Y U := ⟨h.g.below hb, fun j hj => (h.f j hj).below hb, h.a⟩
theorem zl_push (Y : List FO) (y : FO) (U : Nat → Value) (u : Value) : zl FO.c (Y ++ [y]) (fun j => if j = Y.length then u else U j) = zl FO.c Y U ++ [y.c u] := by
  unfold zl
  rw [List.length_append, List.length_singleton, List.range_succ, List.map_append, List.map_singleton]
  congr 1
  · apply List.map_congr_left
    intro j hj
    have hj := List.mem_range.1 hj
    dsimp only
    rw [if_neg (show ¬ j = Y.length by omega)]
    congr 1
    simp [List.getD, List.getElem?_append_left hj]
  · simp [List.getD]
theorem keepO {wr w2 w3 : World} {base : Nat} {ov fv : Value} {L : List (List Value)} {y : FO} (h : GOwns 35 4 w2 base ov L) (g3 : (w2.alloc (.cells (y.c fv).toArray 35)).grownBy w3 ov.ownBlock) :
    ∀ {k : Nat} {c : Array Value} {T : TypeId} {fr' : Nat × Nat}, w2.heap[k]? = some (.cells c T fr') → T ≠ 35 → w3.heap[k]? = some (.cells c T fr') := by
  intro k c T fr' hk hT
  have hB : Below w2.heap.size w2 (w2.alloc (.cells (y.c fv).toArray 35)) := (Below.refl _ _).alloc (Nat.le_refl _) _
  have hlt := (Array.getElem?_eq_some_iff.1 hk).1
  refine (g3.block k (Nat.lt_of_lt_of_le hlt hB.size) (fun e => ?_)).trans ((hB.block k hlt).trans hk)
  obtain ⟨zs, ow, _⟩ := h
  rcases ow.2 with ⟨rfl, _⟩ | ⟨g', cap, cur, rfl, _, hh, _⟩
  · cases e
  · obtain rfl : k = g' := Option.some.inj e
    exact bk_apart hk hh hT rfl
theorem keepG {w2 w3 : World} (keep : ∀ {k : Nat} {c : Array Value} {T : TypeId} {fr' : Nat × Nat}, w2.heap[k]? = some (.cells c T fr') → T ≠ 35 → w3.heap[k]? = some (.cells c T fr')) {T : TypeId} {K b : Nat} {v : Value} {L : List (List Value)} (hT : T ≠ 35) (h : GOwns T K w2 b v L) : GOwns T K w3 b v L := by
  obtain ⟨zs, ⟨hl, h2⟩, hz⟩ := h
  refine ⟨zs, ⟨hl, ?_⟩, hz⟩
  rcases h2 with h2 | ⟨g', cap, cur, rfl, hg, hh, r⟩
  · exact Or.inl h2
  · exact Or.inr ⟨g', cap, cur, rfl, hg, keep hh hT, r⟩
theorem NOU.push {wr w2 w3 : World} {base b0 : Nat} {ov v3 fv : Value} {Y : List FO} {U : Nat → Value} {y : FO} (h : NOU wr base ov Y U) (hc : MCh b0 wr w2) (hb : base ≤ wr.heap.size) (hf : GOwns 38 8 w2 wr.heap.size fv (y.fr.map frC)) (o3 : GOwns 35 4 w3 base v3 (zl FO.c Y U ++ [y.c fv])) (g3 : (w2.alloc (.cells (y.c fv).toArray 35)).grownBy w3 ov.ownBlock) :
    NOU w3 base v3 (Y ++ [y]) (fun j => if j = Y.length then fv else U j) := by
  have keep := @keepO wr w2 w3 base ov fv _ y (GOwns.ch hc h.g (by decide)) g3
  refine ⟨by rw [zl_push]; exact o3, fun j hj => ?_, fun i j hij hj k hk => ?_⟩
  · rw [List.length_append, List.length_singleton] at hj
    show GOwns _ 8 w3 base (if j = Y.length then fv else U j) _
    by_cases e : j = Y.length
    · rw [if_pos e, show (Y ++ [y]).getD j default = y by rw [e]; simp [List.getD]]
      exact (keepG keep (by decide) hf).mono hb
    · rw [if_neg e, show (Y ++ [y]).getD j default = Y.getD j default by simp [List.getD, List.getElem?_append_left (show j < Y.length by omega)]]
      exact keepG keep (by decide) (GOwns.ch hc (h.f j (by omega)) (by decide))
  · rw [List.length_append, List.length_singleton] at hj
    replace hk : (if j = Y.length then fv else U j).ownBlock = some k := hk
    show some k ≠ (if i = Y.length then fv else U i).ownBlock
    rw [if_neg (show ¬ i = Y.length by omega)]
    by_cases e : j = Y.length
    · rw [if_pos e] at hk
      intro q
      have b1 := (hf.bounds k hk).1
      have b2 := ((h.f i (by omega)).bounds k q.symm).2
      omega
    · rw [if_neg e] at hk
      exact h.a i j hij (by omega) k hk
theorem MRep.keep {w2 w3 : World} {x base : Nat} {F : FS} {m : FX} (h : MRep w2 x base F m) (keep : ∀ {k : Nat} {c : Array Value} {T : TypeId} {fr' : Nat × Nat}, w2.heap[k]? = some (.cells c T fr') → T ≠ 35 → w3.heap[k]? = some (.cells c T fr')) : MRep w3 x base F m := by
  obtain ⟨lv, P⟩ := h
  exact ⟨lv, keep P.bk (by decide), keepG keep (by decide) P.ow, P.lo⟩
theorem MRep.below {w w' : World} {x base : Nat} {F : FS} {m : FX} (h : MRep w x base F m) (hb : Below w.heap.size w w') : MRep w' x base F m := by
  obtain ⟨lv, P⟩ := h
  exact ⟨lv, P.below hb⟩
theorem MRep.mono {w : World} {x base b : Nat} {F : FS} {m : FX} (h : MRep w x base F m) (hb : b ≤ base) : MRep w x b F m := by
  obtain ⟨lv, P⟩ := h
  exact ⟨lv, P.bk, P.ow.mono hb, Nat.le_trans hb P.lo⟩
theorem NOU.zero {w : World} {base g : Nat} (hb : base ≤ w.heap.size) (hg : w.heap.size = g) : NOU (w.alloc (.cells #[] 35)) base (.slice (some ⟨g, 0, none⟩) 0 0) [] (fun _ => .slice none 0 0) := by
  subst hg
  exact ⟨GOwns.lit0 _ _ _ _ hb, fun j hj => by simp at hj, fun i j _ hj => by simp at hj⟩

set_option maxRecDepth 20000 in
set_option maxHeartbeats 4000000 in
theorem specFL (F : FS) (v : Value) (R : List SFlowOp) (w : World) (row : GRow 4 w v (SFlowOp.L R)) (hl : R.length ≤ 140737488355328) :
    Calls Try.prog 6 #[fsV F, v] w fun e w' => ∃ r, e = .returned (.tuple #[r, .int .i64 (flC F R)]) ∧ NOwns w' w.heap.size r (flY F R) ∧ Below w.heap.size w w' := by
  obtain ⟨ao, cp, ev⟩ := row.form
  rw [List.length_map] at ev
  have hB0 : Below w.heap.size w (w.alloc (.cells #[.bool F.sv, .int .i64 F.cw, .int .i64 F.sw, .int .i64 F.tw, .int .i64 F.ow, .int .i64 F.pc, .int .i64 F.ps, .int .i64 F.pt, .int .i64 F.po] 24)) := (Below.refl _ _).alloc (Nat.le_refl _) _
  by_cases a1 : 400 < R.length
  · have e1 : flC F R = 4 := if_pos a1
    have e2 : flY F R = [] := if_pos (Or.inl a1)
    rw [e1, e2, ev]
    unfold fsV
    have a1' : (400 : Int) < (R.length : Int) := by omega
    have HB : Hid _ := hB0
    generalize R.length = n at *
    clear row hB0
    go_enter Try.func6, Try.ntmps6
    go_wp2
    go_ret2
    exact ⟨_, rfl, (NOU.zero HB.out.size (by simp)).owns, HB.out.alloc HB.out.size _⟩
  have V := fun u => setupM F u
  have a1' : ¬ (400 : Int) < (R.length : Int) := by omega
  by_cases a2 : fsOK F = false
  · have e1 : flC F R = 1 := (if_neg a1).trans (if_pos a2)
    have e2 : flY F R = [] := if_pos (Or.inr a2)
    rw [e1, e2, ev]
    rw [a2] at V
    have HV : Hid _ := And.intro V hB0
    generalize R.length = n at *
    clear row e1 e2 hB0 V a2 ev
    unfold fsV at HV ⊢
    go_enter Try.func6, Try.ntmps6
    go_wp2_with (first | (go_at_call 17; refine (HV.out.1 _).mono ?_; rintro e w1 ⟨rfl, b1⟩; have H1 : Hid _ := HV.out.2.trans (b1.mono HV.out.2.size); clear b1))
    go_ret2
    exact ⟨_, rfl, (NOU.zero H1.out.size rfl).owns, H1.out.alloc H1.out.size _⟩
  have hF : fsOK F = true := by simpa using a2
  have e1 : flC F R = 0 := (if_neg a1).trans (if_neg a2)
  have e2 : flY F R = (List.range R.length).map (fobsAt F R) := if_neg (by intro q; rcases q with q | q; exact a1 q; exact a2 q)
  rw [e1, e2]
  rw [hF] at V
  have N := fun u => newM F u
  obtain ⟨n, en⟩ : ∃ n, n = R.length := ⟨_, rfl⟩
  have hn : n ≤ 400 := by omega
  rw [← en] at ev a1' ⊢
  have HH : Hid _ := And.intro V (And.intro N (And.intro hB0 (And.intro row (And.intro hF en))))
  clear row V N e1 e2 hB0 hF a2 a1 en hl
  subst ev
  unfold fsV at HH ⊢
  go_enter Try.func6, Try.ntmps6
  go_wp2_with fail
  go_at_call 17
  refine (HH.out.1 _).mono ?_
  rintro e w1 ⟨rfl, b1⟩
  have B1 := HH.out.2.2.1.trans (b1.mono HH.out.2.2.1.size)
  have k1 : w1.heap[w.heap.size]? = some (.cells #[.bool F.sv, .int .i64 F.cw, .int .i64 F.sw, .int .i64 F.tw, .int .i64 F.ow, .int .i64 F.pc, .int .i64 F.ps, .int .i64 F.pt, .int .i64 F.po] 24 (0, 0)) := (b1.block _ (by simp)).trans (heap_alloc_new _ _)
  have c0 : w1.cell? ⟨w.heap.size, 0, none⟩ = some (.bool F.sv) := (bk_cell k1 0).trans rfl
  have c1 : w1.cell? ⟨w.heap.size, 1, none⟩ = some (.int .i64 F.cw) := (bk_cell k1 1).trans rfl
  have c2 : w1.cell? ⟨w.heap.size, 2, none⟩ = some (.int .i64 F.sw) := (bk_cell k1 2).trans rfl
  have c3 : w1.cell? ⟨w.heap.size, 3, none⟩ = some (.int .i64 F.tw) := (bk_cell k1 3).trans rfl
  have c4 : w1.cell? ⟨w.heap.size, 4, none⟩ = some (.int .i64 F.ow) := (bk_cell k1 4).trans rfl
  have c5 : w1.cell? ⟨w.heap.size, 5, none⟩ = some (.int .i64 F.pc) := (bk_cell k1 5).trans rfl
  have c6 : w1.cell? ⟨w.heap.size, 6, none⟩ = some (.int .i64 F.ps) := (bk_cell k1 6).trans rfl
  have c7 : w1.cell? ⟨w.heap.size, 7, none⟩ = some (.int .i64 F.pt) := (bk_cell k1 7).trans rfl
  have c8 : w1.cell? ⟨w.heap.size, 8, none⟩ = some (.int .i64 F.po) := (bk_cell k1 8).trans rfl
  have H1 : Hid _ := B1
  clear b1 B1 k1
  go_wp2_with fail
  go_at_call 18
  refine (HH.out.2.1 _).mono ?_
  rintro e w2 ⟨x, rfl, P2, b2⟩
  have b2' := H1.out.trans (b2.mono H1.out.size)
  have bA : Below w2.heap.size w2 (w2.alloc (.cells #[] 35)) := (Below.refl _ _).alloc (Nat.le_refl _) _
  have H2 : Hid _ := And.intro ((P2.mono H1.out.size).below bA) (And.intro (b2'.trans (bA.mono b2'.size)) (NOU.zero b2'.size rfl))
  clear P2 b2 b2' bA c0 c1 c2 c3 c4 c5 c6 c7 c8
  go_wp2_with fail
  go_loopg [7, 8] n (fun q ov kv wr => ∃ k : Nat, k ≤ n ∧ q = n - k ∧ kv = .int .i64 (k : Int) ∧ (∃ U, NOU wr w.heap.size ov ((List.range k).map (fobsAt F R)) U) ∧ MRep wr x w.heap.size F (frunP F R k) ∧ Below w.heap.size w wr)
  case atStart => exact ⟨0, Nat.zero_le _, by omega, rfl, ⟨_, H2.out.2.2⟩, H2.out.1, H2.out.2.1⟩
  case round =>
    obtain ⟨k, hk, hq, rfl, ⟨U, G⟩, P, bw⟩ := hrel
    by_cases hlt : k < n
    · have e0 := HH.out.2.2.2.2.2
      obtain ⟨b, off, cap, ev, hbl, hc⟩ := HH.out.2.2.2.1.at' (by rw [List.length_map]; omega)
      simp only [Value.slice.injEq] at ev
      obtain ⟨rfl, em2, rfl⟩ := ev
      clear em2
      have hck := hc k (by rw [List.length_map]; omega)
      rw [SFlowOp.at R k (by omega)] at hck
      obtain ⟨o, eo⟩ : ∃ o, o = R.getD k default := ⟨_, rfl⟩
      rw [← eo] at hck
      have c0 : wr.cell? ⟨b, off + k * 4, none⟩ = some (.int .i64 o.f0) := (bw.cell (p := ⟨b, off + (k * 4 + 0), none⟩) hbl).trans (hck 0 (by omega))
      have c1 : wr.cell? ⟨b, off + k * 4 + 1, none⟩ = some (.int .i64 o.f1) := (bw.cell (p := ⟨b, off + (k * 4 + 1), none⟩) hbl).trans (hck 1 (by omega))
      have c2 : wr.cell? ⟨b, off + k * 4 + 2, none⟩ = some (.int .i64 o.f2) := (bw.cell (p := ⟨b, off + (k * 4 + 2), none⟩) hbl).trans (hck 2 (by omega))
      have c3 : wr.cell? ⟨b, off + k * 4 + 3, none⟩ = some (.bool o.f3) := (bw.cell (p := ⟨b, off + (k * 4 + 3), none⟩) hbl).trans (hck 3 (by omega))
      have C := doM x w.heap.size F HH.out.2.2.2.2.1 (frunP F R k) k o.f1 o.f2 o.f3 wr P (frunP_inv HH.out.2.2.2.2.1 R k (by omega)) (by omega) bw.size o.f0
      obtain ⟨S, eS⟩ : ∃ S, S = fstep F (frunP F R k) o.f0 o.f1 o.f2 o.f3 := ⟨_, rfl⟩
      rw [← eS] at C
      have eP : frunP F R (k + 1) = S.1 := by rw [eS, eo]; rfl
      have eO : (List.range (k + 1)).map (fobsAt F R) = (List.range k).map (fobsAt F R) ++ [S.2] := by
        rw [List.range_succ, List.map_append, List.map_singleton]
        congr 2
        rw [eS, eo]; rfl
      obtain ⟨la, lc, el⟩ := G.g.row.form
      obtain ⟨ln, eln⟩ : ∃ ln, ln = (zl FO.c ((List.range k).map (fobsAt F R)) U).length := ⟨_, rfl⟩
      rw [← eln] at el
      have hln : ln ≤ 400 := by rw [eln, zl_length, List.length_map, List.length_range]; omega
      subst el
      have H4 : Hid _ := And.intro C (And.intro eP (And.intro eO (And.intro G (And.intro bw eln))))
      clear C hck hc eo e0 eS eP eO P G bw eln hbl
      obtain ⟨x0, x1, x2, x3⟩ := o
      dsimp only at *
      go_wp2_with fail
      go_at_call 19
      refine H4.out.1.mono ?_
      rintro e w3 ⟨fv, rfl, G3, P3, C3⟩
      have hs3 := C3.size
      have hsw := H4.out.2.2.2.2.1.size
      obtain ⟨fa, fn, fc, ef, efn⟩ := slice_form G3
      clear efn
      have GA : GOwns 35 4 (w3.alloc (.cells (S.2.c fv).toArray 35)) w.heap.size (.slice la ln lc) (zl FO.c ((List.range k).map (fobsAt F R)) U) := (GOwns.ch C3 H4.out.2.2.2.1.g (by decide)).below ((Below.refl _ _).alloc (Nat.le_refl _) _)
      have FA := H4.out.2.2.2.1.flat
      have FB : FlatK 4 [S.2.c fv] := fun y hy => by
        rw [List.mem_singleton.1 hy]
        exact ⟨rfl, foc_one _ (by rw [ef]; rfl)⟩
      have PU := fun (v4 : Value) (w4 : World) (o4 : GOwns 35 4 w4 w.heap.size v4 (zl FO.c ((List.range k).map (fobsAt F R)) U ++ [S.2.c fv])) (g4 : (w3.alloc (.cells (S.2.c fv).toArray 35)).grownBy w4 (Value.slice la ln lc).ownBlock) => And.intro (NOU.push H4.out.2.2.2.1 C3 H4.out.2.2.2.2.1.size G3 o4 g4) (And.intro (P3.keep (@keepO wr w3 w4 w.heap.size (.slice la ln lc) fv _ S.2 (GOwns.ch C3 H4.out.2.2.2.1.g (by decide)) g4)) ((show Below w.heap.size w (w3.alloc (.cells (S.2.c fv).toArray 35)) from (H4.out.2.2.2.2.1.trans (C3.toBelow H4.out.2.2.2.2.1.size)).alloc (by omega) _).grown g4 (by have := H4.out.2.2.2.2.1.size; simp; omega) (fun k hk => (GA.bounds k hk).1)))
      have H5 : Hid _ := And.intro GA (And.intro FA (And.intro FB PU))
      clear G3 P3 C3 GA FA FB PU
      subst ef
      go_wp2_with (first | (at_builtin; refine wpList_append_flat rfl (.tmp 26) (.tmp 33) 28 35 Try.underlying28 _ 4 48 infoFO rfl (by decide) (by decide) rfl w.heap.size (.slice la ln lc) _ H5.out.2.1 rfl H5.out.1 _ _ H5.out.2.2.1 rfl (lit_flatG _ (S.2.c (.slice fa fn fc)) 35 _ rfl) (by rw [← H4.out.2.2.2.2.2]; simp <;> omega) (by simp <;> omega) ?_; intro v6 w6 o6 g6; obtain ⟨p1, p2, p3⟩ := H5.out.2.2.2 v6 w6 o6 g6; obtain ⟨ga, gn, gc, ef, efn⟩ := slice_form o6; have H6 : Hid _ := And.intro p1 (And.intro p2 p3); clear o6 g6 p1 p2 p3 efn; subst ef))
      go_roundg (n - (k + 1))
      case measure => omega
      case rel => exact ⟨k + 1, by omega, rfl, by go_num, ⟨_, by rw [H4.out.2.2.1]; exact H6.out.1⟩, by rw [H4.out.2.1]; exact H6.out.2.1, H6.out.2.2⟩
    · obtain rfl : k = n := by omega
      have HG : Hid _ := And.intro G bw
      clear G P bw
      go_wp2
      go_ret2
      exact ⟨_, rfl, HG.out.1.owns, HG.out.2⟩
end Go.Proofs.Ythjakbpcpfmbjaa
