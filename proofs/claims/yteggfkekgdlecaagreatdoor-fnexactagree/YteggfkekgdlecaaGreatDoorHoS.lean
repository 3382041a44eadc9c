import Derived.Test.YteggfkekgdlecaaGreatDoorHoP
import Derived.Test.YteggfkekgdlecaaGreatDoorHelQ
import Derived.Test.YteggfkekgdlecaaGreatDoorChV
import Derived.Deep.CutRange
namespace Go.Proofs.YteggfkekgdlecaaGreatDoor
open Go.RowKit
set_option linter.unusedVariables false
set_option linter.unusedSimpArgs false

/-- The cells of a hello that is laid into a block. -/
abbrev heL (h : HE) (v0 v1 v2 v3 v4 v5 : Value) : Array Value := #[.int .i64 h.kd, .int .i64 h.vr, v0, v1, v2, .int .i64 h.par.a0, .int .i64 h.par.a1, .int .i64 h.par.a2, .int .i64 h.par.a3, .int .i64 h.par.a4, .int .i64 h.par.a5, .int .i64 h.par.a6, .int .i64 h.par.a7, .int .i64 h.par.a8, .bool h.par.m, v3, v4, v5]
abbrev heP (h : HE) (v3 v4 v5 : Value) : Value := .agg #[.int .i64 h.par.a0, .int .i64 h.par.a1, .int .i64 h.par.a2, .int .i64 h.par.a3, .int .i64 h.par.a4, .int .i64 h.par.a5, .int .i64 h.par.a6, .int .i64 h.par.a7, .int .i64 h.par.a8, .bool h.par.m, v3, v4, v5]
/-- What a function knows of its hello in every world behind. -/
structure HeK (w : World) (g : Nat) (h : HE) (a0 a1 a2 : Option Addr) (p0 p1 p2 : Nat) (v3 v4 v5 : Value) : Prop where
  b : Book w [(g, .cells (heL h (.slice a0 h.rnd.length p0) (.slice a1 h.vers.length p1) (.slice a2 h.nms.length p2) v3 v4 v5) 37)]
  r0 : Row w .u8 (.slice a0 h.rnd.length p0) h.rnd
  r1 : Row w .i64 (.slice a1 h.vers.length p1) h.vers
  r2 : TRow w (.slice a2 h.nms.length p2) h.nms
  r3 : PPRow w (heP h v3 v4 v5) h.par
theorem HeK.below {w w' : World} {g : Nat} {h : HE} {a0 a1 a2 : Option Addr} {p0 p1 p2 : Nat} {v3 v4 v5 : Value} (k : HeK w g h a0 a1 a2 p0 p1 p2 v3 v4 v5) (hb : Below w.heap.size w w') : HeK w' g h a0 a1 a2 p0 p1 p2 v3 v4 v5 :=
  ⟨k.b.below hb, k.r0.below hb, k.r1.below hb, k.r2.below hb, k.r3.below hb⟩
theorem heK_new {w : World} {v : Value} {h : HE} (k : HERow w v h) : ∃ (a0 a1 a2 : Option Addr) (p0 p1 p2 : Nat) (v3 v4 v5 : Value), v = .agg (heL h (.slice a0 h.rnd.length p0) (.slice a1 h.vers.length p1) (.slice a2 h.nms.length p2) v3 v4 v5) ∧ (∃ a3 p3 a4 p4 a5 p5, v3 = .slice a3 h.par.o.length p3 ∧ v4 = .slice a4 h.par.t.length p4 ∧ v5 = .slice a5 h.par.f.length p5) ∧
    HeK (w.alloc (.cells (heL h (.slice a0 h.rnd.length p0) (.slice a1 h.vers.length p1) (.slice a2 h.nms.length p2) v3 v4 v5) 37)) w.heap.size h a0 a1 a2 p0 p1 p2 v3 v4 v5 := by
  obtain ⟨v0, v1, v2, v3, v4, v5, rfl, r0, r1, r2, r3, r4, r5⟩ := k
  obtain ⟨a0, p0, rfl⟩ := r0.form
  obtain ⟨a1, p1, rfl⟩ := r1.form
  obtain ⟨a2, p2, rfl⟩ := r2.form
  obtain ⟨a3, p3, rfl⟩ := r3.form
  obtain ⟨a4, p4, rfl⟩ := r4.form
  obtain ⟨a5, p5, rfl⟩ := r5.form
  have B : Below w.heap.size w (w.alloc (.cells (heL h (.slice a0 h.rnd.length p0) (.slice a1 h.vers.length p1) (.slice a2 h.nms.length p2) (.slice a3 h.par.o.length p3) (.slice a4 h.par.t.length p4) (.slice a5 h.par.f.length p5)) 37)) := (Below.refl _ _).alloc (Nat.le_refl _) _
  refine ⟨a0, a1, a2, p0, p1, p2, _, _, _, rfl, ⟨a3, p3, a4, p4, a5, p5, rfl, rfl, rfl⟩, (Book.nil w).add _, r0.below B, r1.below B, r2.below B, ?_⟩
  exact ⟨_, _, _, rfl, r3.below B, r4.below B, r5.below B⟩
theorem HeK.cells {w : World} {g : Nat} {h : HE} {a0 a1 a2 : Option Addr} {p0 p1 p2 : Nat} {v3 v4 v5 : Value} (k : HeK w g h a0 a1 a2 p0 p1 p2 v3 v4 v5) : w.cell? ⟨g, 0, none⟩ = some (.int .i64 h.kd) ∧ w.cell? ⟨g, 1, none⟩ = some (.int .i64 h.vr) ∧ w.cell? ⟨g, 2, none⟩ = some (.slice a0 h.rnd.length p0) ∧ w.cell? ⟨g, 3, none⟩ = some (.slice a1 h.vers.length p1) ∧ w.cell? ⟨g, 4, none⟩ = some (.slice a2 h.nms.length p2) ∧ w.cell? ⟨g, 5, none⟩ = some (.int .i64 h.par.a0) ∧ w.cell? ⟨g, 6, none⟩ = some (.int .i64 h.par.a1) ∧ w.cell? ⟨g, 7, none⟩ = some (.int .i64 h.par.a2) ∧ w.cell? ⟨g, 8, none⟩ = some (.int .i64 h.par.a3) ∧ w.cell? ⟨g, 9, none⟩ = some (.int .i64 h.par.a4) ∧ w.cell? ⟨g, 10, none⟩ = some (.int .i64 h.par.a5) ∧ w.cell? ⟨g, 11, none⟩ = some (.int .i64 h.par.a6) ∧ w.cell? ⟨g, 12, none⟩ = some (.int .i64 h.par.a7) ∧ w.cell? ⟨g, 13, none⟩ = some (.int .i64 h.par.a8) ∧ w.cell? ⟨g, 14, none⟩ = some (.bool h.par.m) ∧ w.cell? ⟨g, 15, none⟩ = some (v3) ∧ w.cell? ⟨g, 16, none⟩ = some (v4) ∧ w.cell? ⟨g, 17, none⟩ = some (v5) :=
  k.b.c18 (List.mem_cons_self ..)
set_option maxRecDepth 20000 in
set_option maxHeartbeats 4000000 in
/-- The model's l12HelloOK of a server's. -/
theorem hokS_srv (h : HE) (a0 a1 a2 : Option Addr) (p0 p1 p2 : Nat) (v3 v4 v5 : Value) (w : World) (hs : h.small 9223372036854775807) (hk : h.kd = 2) (h16 : h.rnd.length = 16)
    (K : HeK (w.alloc (.cells (heL h (.slice a0 h.rnd.length p0) (.slice a1 h.vers.length p1) (.slice a2 h.nms.length p2) v3 v4 v5) 37)) w.heap.size h a0 a1 a2 p0 p1 p2 v3 v4 v5) :
    Calls Tryz.prog 20 #[.agg (heL h (.slice a0 h.rnd.length p0) (.slice a1 h.vers.length p1) (.slice a2 h.nms.length p2) v3 v4 v5)] w fun e w' => e = .returned (.bool (decide (heS h))) ∧ Below w.heap.size w w' := by
  obtain ⟨R, eR⟩ : ∃ R, R = decide (heS h) := ⟨_, rfl⟩
  rw [← eR]
  have BW : Below w.heap.size w (w.alloc (.cells (heL h (.slice a0 h.rnd.length p0) (.slice a1 h.vers.length p1) (.slice a2 h.nms.length p2) v3 v4 v5) 37)) := (Below.refl _ _).alloc (Nat.le_refl _) _
  have hkb : (h.kd == 2) = true := by simp [hk]
  have h16b : ((h.rnd.length : Int) != 16) = false := by rw [h16]; rfl
  have hsv : h.vers.length ≤ 9223372036854775807 := hs.2.1
  have N1 := nmS (.slice a2 h.nms.length p2) h.nms 1 (w.alloc (.cells (heL h (.slice a0 h.rnd.length p0) (.slice a1 h.vers.length p1) (.slice a2 h.nms.length p2) v3 v4 v5) 37)) K.r2 hs.2.2.1 (by decide)
  by_cases c1 : ¬ vok h.vr
  · have hR : R = false := by rw [eR]; exact decide_eq_false (fun q => c1 q.1)
    subst hR
    have V1 := sVbad h.vr (w.alloc (.cells (heL h (.slice a0 h.rnd.length p0) (.slice a1 h.vers.length p1) (.slice a2 h.nms.length p2) v3 v4 v5) 37)) c1
    have HK : Hid _ := And.intro V1 BW
    clear K BW N1 hs hk h16 eR V1 c1
    go_enter Tryz.func20, Tryz.ntmps20
    go_wp2_with (go_at_call 42; refine HK.out.1.mono ?_; rintro e w1 ⟨rfl, hw⟩; subst w1)
    go_ret
    exact ⟨rfl, HK.out.2⟩
  have c1' : vok h.vr := Classical.not_not.1 c1
  have V1 := sVok h.vr (w.alloc (.cells (heL h (.slice a0 h.rnd.length p0) (.slice a1 h.vers.length p1) (.slice a2 h.nms.length p2) v3 v4 v5) 37)) c1'
  by_cases c2 : ¬ h.vers.length = 0
  · have hR : R = false := by rw [eR]; exact decide_eq_false (fun q => c2 q.2.1)
    subst hR
    have c2' : ((h.vers.length : Int) == 0) = false := by rw [beq_eq_false_iff_ne]; omega
    have HK : Hid _ := And.intro V1 BW
    clear K BW N1 hs hk h16 eR V1 c1 c1' c2
    go_enter Tryz.func20, Tryz.ntmps20
    go_wp2_with (go_at_call 42; refine HK.out.1.mono ?_; rintro e w1 ⟨rfl, hw⟩; subst w1)
    go_ret
    exact ⟨rfl, HK.out.2⟩
  have c2' : h.vers.length = 0 := Decidable.not_not.1 c2
  have c2b : ((h.vers.length : Int) == 0) = true := by rw [c2']; rfl
  by_cases c3 : ¬ nmOK h.nms 1
  · have hR : R = false := by rw [eR]; exact decide_eq_false (fun q => c3 q.2.2.1)
    subst hR
    rw [decide_eq_false c3] at N1
    have HK : Hid _ := And.intro V1 (And.intro BW N1)
    clear K BW N1 hs hk h16 eR V1 c1 c1' c2 c2' c3
    go_enter Tryz.func20, Tryz.ntmps20
    go_wp2_with (first
      | (go_at_call 42; refine HK.out.1.mono ?_; rintro e w1 ⟨rfl, hw⟩; subst w1)
      | (go_at_call 43; refine HK.out.2.2.mono ?_; rintro e w1 ⟨rfl, b1⟩; have H1 : Hid _ := And.intro b1 True.intro; clear b1))
    go_ret
    exact ⟨rfl, HK.out.2.1.trans (H1.out.1.mono HK.out.2.1.size)⟩
  have c3' : nmOK h.nms 1 := Decidable.not_not.1 c3
  rw [decide_eq_true c3'] at N1
  have hR : R = pok h.par true := by
    rw [eR]
    cases hp : pok h.par true with
    | true => exact decide_eq_true ⟨c1', c2', c3', hp⟩
    | false => exact decide_eq_false (fun q => by have := q.2.2.2; rw [hp] at this; cases this)
  have P1 := fun (w1 : World) (b1 : Below (w.alloc (.cells (heL h (.slice a0 h.rnd.length p0) (.slice a1 h.vers.length p1) (.slice a2 h.nms.length p2) v3 v4 v5) 37)).heap.size (w.alloc (.cells (heL h (.slice a0 h.rnd.length p0) (.slice a1 h.vers.length p1) (.slice a2 h.nms.length p2) v3 v4 v5) 37)) w1) => pokS (heP h v3 v4 v5) h.par true w1 (K.below b1).r3 hs.2.2.2
  rw [← hR] at P1
  have HK : Hid _ := And.intro V1 (And.intro BW (And.intro N1 (And.intro P1 K)))
  clear K BW N1 hs hk h16 eR V1 c1 c1' c2 c2' c3 c3' hR P1
  go_enter Tryz.func20, Tryz.ntmps20
  go_wp2_with (first
    | (go_at_call 42; refine HK.out.1.mono ?_; rintro e w1 ⟨rfl, hw⟩; subst w1)
    | (go_at_call 43; refine HK.out.2.2.1.mono ?_; rintro e w1 ⟨rfl, b1⟩; have H1 : Hid _ := And.intro b1 True.intro; obtain ⟨k0, k1, k2, k3, k4, k5, k6, k7, k8, k9, k10, k11, k12, k13, k14, k15, k16, k17⟩ := (HK.out.2.2.2.2.below b1).cells; clear b1)
    | (go_at_call 44; refine (HK.out.2.2.2.1 w1 H1.out.1).mono ?_; rintro e w2 ⟨rfl, b2⟩; have H2 : Hid _ := And.intro b2 True.intro; clear b2))
  go_ret
  exact ⟨rfl, HK.out.2.1.trans ((H1.out.1.trans (H2.out.1.mono H1.out.1.size)).mono HK.out.2.1.size)⟩
/-- Refused ahead of any call. -/
theorem hokS_early (h : HE) (a0 a1 a2 : Option Addr) (p0 p1 p2 : Nat) (v3 v4 v5 : Value) (w : World) (hs : h.small 9223372036854775807) (hc : ¬ h.rnd.length = 16 ∨ (h.rnd.length = 16 ∧ ¬ h.kd = 2 ∧ (¬ h.kd = 1 ∨ (h.kd = 1 ∧ (¬ h.vr = 0 ∨ (h.vr = 0 ∧ (h.vers.length < 1 ∨ 8 < h.vers.length))))))) :
    Calls Tryz.prog 20 #[.agg (heL h (.slice a0 h.rnd.length p0) (.slice a1 h.vers.length p1) (.slice a2 h.nms.length p2) v3 v4 v5)] w fun e w' => e = .returned (.bool false) ∧ Below w.heap.size w w' := by
  have BW : Below w.heap.size w (w.alloc (.cells (heL h (.slice a0 h.rnd.length p0) (.slice a1 h.vers.length p1) (.slice a2 h.nms.length p2) v3 v4 v5) 37)) := (Below.refl _ _).alloc (Nat.le_refl _) _
  have hs0 : h.rnd.length ≤ 9223372036854775807 := hs.1
  have hs1 : h.vers.length ≤ 9223372036854775807 := hs.2.1
  have HB : Hid _ := And.intro BW True.intro
  clear BW hs
  rcases hc with hc | ⟨h16, hc2, hc⟩
  · have hb : ((h.rnd.length : Int) != 16) = true := by simp; omega
    clear hc
    go_enter Tryz.func20, Tryz.ntmps20
    go_wp2
    go_ret
    exact ⟨rfl, HB.out.1⟩
  have h16b : ((h.rnd.length : Int) != 16) = false := by rw [h16]; rfl
  have hk2 : (h.kd == 2) = false := by simp [hc2]
  clear h16 hc2
  rcases hc with hc | ⟨hc1, hc⟩
  · have hb : (h.kd != 1) = true := by simp [hc]
    clear hc
    go_enter Tryz.func20, Tryz.ntmps20
    go_wp2
    go_ret
    exact ⟨rfl, HB.out.1⟩
  have hk1 : (h.kd != 1) = false := by simp [hc1]
  clear hc1
  rcases hc with hc | ⟨hc1, hc⟩
  · have hb : (h.vr != 0) = true := by simp [hc]
    clear hc
    go_enter Tryz.func20, Tryz.ntmps20
    go_wp2
    go_ret
    exact ⟨rfl, HB.out.1⟩
  have hv0 : (h.vr != 0) = false := by simp [hc1]
  clear hc1
  rcases hc with hc | hc
  · have hb : (h.vers.length : Int) < 1 := by omega
    clear hc
    go_enter Tryz.func20, Tryz.ntmps20
    go_wp2
    go_ret
    exact ⟨rfl, HB.out.1⟩
  · have hb : (8 : Int) < (h.vers.length : Int) := by omega
    have hb2 : ¬ (h.vers.length : Int) < 1 := by omega
    clear hc
    go_enter Tryz.func20, Tryz.ntmps20
    go_wp2
    go_ret
    exact ⟨rfl, HB.out.1⟩
theorem chF_one (x : Int) (ys : List Int) : chF [x] ys = if ys.contains x then x else 0 := by
  unfold chF
  by_cases h : ys.contains x = true
  · rw [if_pos h, List.find?_cons_of_pos (p := fun x => ys.contains x) h]; rfl
  · rw [if_neg h, List.find?_cons_of_neg (p := fun x => ys.contains x) (by simpa using h)]; rfl
theorem take_contains (V : List Int) (k : Nat) (hk : k ≤ V.length) (x : Int) : (V.take k).contains x = true ↔ ∃ j, j < k ∧ V.getD j 0 = x := by
  rw [List.contains_iff_mem]
  constructor
  · intro hm
    obtain ⟨i, hi, e⟩ := List.getElem_of_mem hm
    have hi' : i < k := by simp at hi; omega
    refine ⟨i, hi', ?_⟩
    rw [List.getElem_take] at e
    rw [← e]
    simp [List.getD, show i < V.length by omega]
  · rintro ⟨j, hj, rfl⟩
    have e : V.getD j 0 = (V.take k)[j]'(by simp; omega) := by simp [List.getD, show j < V.length by omega]
    rw [e]
    exact List.getElem_mem _
theorem row_cutI {w : World} {b off N ct : Nat} {X : List Int} (h : Row w .i64 (.slice (some ⟨b, off, none⟩) N ct) X) (hX : X.length = N) (p k : Nat) (hk : p + k ≤ N) : Row w .i64 (.slice (some ⟨b, off + p, none⟩) k (ct - p)) ((X.drop p).take k) := by
  rcases h with ⟨rfl, ao', cap', e⟩ | ⟨b', off', cap, e, hb, hc, hx⟩
  · simp at hX
    subst hX
    obtain rfl : k = 0 := by omega
    exact Or.inl ⟨by simp, _, _, rfl⟩
  · cases e
    refine Or.inr ⟨b, off + p, ct - p, by simp; omega, hb, ⟨by simp; omega, by omega⟩, fun j hj => ?_⟩
    have hj' : j < k := by simp at hj; omega
    have := hx (p + j) (by omega)
    rw [Nat.add_assoc, this]
    simp only [List.getD]
    rw [List.getElem?_take_of_lt hj', List.getElem?_drop]
set_option maxRecDepth 20000 in
set_option maxHeartbeats 4000000 in
/-- The model's l12HelloOK of a client's. -/
theorem hokS_cli (h : HE) (a0 a1 a2 : Option Addr) (p0 p1 p2 : Nat) (v3 v4 v5 : Value) (w : World) (hs : h.small 9223372036854775807) (h16 : h.rnd.length = 16) (hk : h.kd = 1) (hv : h.vr = 0) (hl1 : 1 ≤ h.vers.length) (hl8 : h.vers.length ≤ 8)
    (K : HeK (w.alloc (.cells (heL h (.slice a0 h.rnd.length p0) (.slice a1 h.vers.length p1) (.slice a2 h.nms.length p2) v3 v4 v5) 37)) w.heap.size h a0 a1 a2 p0 p1 p2 v3 v4 v5) :
    Calls Tryz.prog 20 #[.agg (heL h (.slice a0 h.rnd.length p0) (.slice a1 h.vers.length p1) (.slice a2 h.nms.length p2) v3 v4 v5)] w fun e w' => e = .returned (.bool (decide (heC h))) ∧ Below w.heap.size w w' := by
  obtain ⟨R, eR⟩ : ∃ R, R = decide (heC h) := ⟨_, rfl⟩
  rw [← eR]
  have BW : Below w.heap.size w (w.alloc (.cells (heL h (.slice a0 h.rnd.length p0) (.slice a1 h.vers.length p1) (.slice a2 h.nms.length p2) v3 v4 v5) 37)) := (Below.refl _ _).alloc (Nat.le_refl _) _
  have h16b : ((h.rnd.length : Int) != 16) = false := by rw [h16]; rfl
  have hk2 : (h.kd == 2) = false := by rw [hk]; rfl
  have hk1 : (h.kd != 1) = false := by rw [hk]; rfl
  have hv0 : (h.vr != 0) = false := by rw [hv]; rfl
  have N1 := nmS (.slice a2 h.nms.length p2) h.nms 4 (w.alloc (.cells (heL h (.slice a0 h.rnd.length p0) (.slice a1 h.vers.length p1) (.slice a2 h.nms.length p2) v3 v4 v5) 37)) K.r2 hs.2.2.1 (by decide)
  by_cases c3 : ¬ nmOK h.nms 4
  · have hR : R = false := by rw [eR]; exact decide_eq_false (fun q => c3 q.2.2.1)
    subst hR
    rw [decide_eq_false c3] at N1
    have HK : Hid _ := And.intro BW N1
    clear K BW N1 hs hk hv h16 eR c3
    go_enter Tryz.func20, Tryz.ntmps20
    go_wp2_with (go_at_call 43; refine HK.out.2.mono ?_; rintro e w1 ⟨rfl, b1⟩; have H1 : Hid _ := And.intro b1 True.intro; clear b1)
    go_ret
    exact ⟨rfl, HK.out.1.trans (H1.out.1.mono HK.out.1.size)⟩
  have c3' : nmOK h.nms 4 := Decidable.not_not.1 c3
  rw [decide_eq_true c3'] at N1
  have P1 := fun (w1 : World) (b1 : Below (w.alloc (.cells (heL h (.slice a0 h.rnd.length p0) (.slice a1 h.vers.length p1) (.slice a2 h.nms.length p2) v3 v4 v5) 37)).heap.size (w.alloc (.cells (heL h (.slice a0 h.rnd.length p0) (.slice a1 h.vers.length p1) (.slice a2 h.nms.length p2) v3 v4 v5) 37)) w1) => pokS (heP h v3 v4 v5) h.par false w1 (K.below b1).r3 hs.2.2.2
  cases hp : pok h.par false with
  | false =>
    have hR : R = false := by rw [eR]; exact decide_eq_false (fun q => by have := q.2.2.2; rw [hp] at this; cases this)
    subst hR
    rw [hp] at P1
    have HK : Hid _ := And.intro BW (And.intro N1 (And.intro P1 K))
    clear K BW N1 hs hk hv h16 eR c3 c3' P1 hp
    go_enter Tryz.func20, Tryz.ntmps20
    go_wp2_with (first
      | (go_at_call 43; refine HK.out.2.1.mono ?_; rintro e w1 ⟨rfl, b1⟩; have H1 : Hid _ := And.intro b1 True.intro; obtain ⟨k0, k1, k2, k3, k4, k5, k6, k7, k8, k9, k10, k11, k12, k13, k14, k15, k16, k17⟩ := (HK.out.2.2.2.below b1).cells; clear b1)
      | (go_at_call 44; refine (HK.out.2.2.1 w1 H1.out.1).mono ?_; rintro e w2 ⟨rfl, b2⟩; have H2 : Hid _ := And.intro b2 True.intro; clear b2))
    go_ret
    exact ⟨rfl, HK.out.1.trans ((H1.out.1.trans (H2.out.1.mono H1.out.1.size)).mono HK.out.1.size)⟩
  | true =>
    rw [hp] at P1
    have hRv : R = decide (∀ i, i < h.vers.length → vs1 h.vers i) := by
      rw [eR, decide_eq_decide]
      exact ⟨fun q => q.2.1.2, fun q => ⟨hv, ⟨⟨hl1, hl8⟩, q⟩, c3', hp⟩⟩
    obtain ⟨bv, ov, cv, evv, hbv, hcv⟩ := K.r1.at (by omega)
    have hcap : h.vers.length ≤ p1 ∧ p1 ≤ 9223372036854775807 := by
      rcases K.r1 with ⟨e, _⟩ | ⟨b', off', cap, e, _, hc, _⟩
      · rw [e] at hl1; simp at hl1
      · cases e; exact ⟨hc.1, Nat.le_trans hc.2 (by decide)⟩
    cases evv
    obtain ⟨n, en⟩ : ∃ n, n = h.vers.length := ⟨_, rfl⟩
    have HK : Hid _ := And.intro BW (And.intro N1 (And.intro P1 (And.intro K hRv)))
    have EN : Hid _ := And.intro en True.intro
    clear BW N1 hs hk hv h16 eR c3 c3' P1 hp hRv hbv hcv K
    rw [← en] at hl1 hl8 hcap HK ⊢
    clear en
    obtain ⟨hcap1, hcap2⟩ := hcap
    go_enter Tryz.func20, Tryz.ntmps20
    go_wp2_with (first
      | (go_at_call 43; refine HK.out.2.1.mono ?_; rintro e w1 ⟨rfl, b1⟩; have H1 : Hid _ := And.intro b1 True.intro; obtain ⟨k0, k1, k2, k3, k4, k5, k6, k7, k8, k9, k10, k11, k12, k13, k14, k15, k16, k17⟩ := (HK.out.2.2.2.1.below b1).cells; clear b1)
      | (go_at_call 44; refine (HK.out.2.2.1 w1 H1.out.1).mono ?_; rintro e w2 ⟨rfl, b2⟩; have H2 : Hid _ := And.intro b2 True.intro; clear b2))
    have B2 := H1.out.1.trans (H2.out.1.mono H1.out.1.size)
    have K2 := HK.out.2.2.2.1.below B2
    have hlen : h.vers.length = n := EN.out.1.symm
    clear k0 k1 k2 k3 k4 k5 k6 k7 k8 k9 k10 k11 k12 k13 k14 k15 k16 k17
    obtain ⟨-, -, -, k3, -, -, -, -, -, -, -, -, -, -, -, -, -, -⟩ := K2.cells
    rw [hlen] at k3
    have r1 := K2.r1
    rw [hlen] at r1
    obtain ⟨b', o', c', e', hb', hc'⟩ := r1.at (by omega)
    rw [hlen] at e' hc'
    cases e'
    have HL : Hid _ := And.intro r1 (And.intro hlen (And.intro hc' (HK.out.1.trans (B2.mono HK.out.1.size))))
    clear r1 hlen hc' B2 K2
    go_loopg [3] n (fun q i wr => ∃ k : Nat, k ≤ n ∧ q = n - k ∧ i = .int .i64 (k : Int) ∧ (∃ z, wr = w2.drewN z) ∧ ∀ j, j < k → vs1 h.vers j)
    case atStart => exact ⟨0, Nat.zero_le _, rfl, rfl, ⟨0, rfl⟩, fun j hj => by omega⟩
    case round =>
      obtain ⟨k, hkn, rfl, rfl, ⟨z, hz⟩, hno⟩ := hrel
      have HN : Hid _ := And.intro hno (And.intro hz (show Below w.heap.size w wr by rw [hz]; exact below_drewN HL.out.2.2.2 z))
      clear hno
      have k3z : wr.cell? ⟨w.heap.size, 3, none⟩ = some (.slice (some ⟨bv, ov, none⟩) n p1) := by rw [hz]; exact k3
      by_cases hlt : k < n
      · obtain ⟨x, ex⟩ : ∃ x, x = h.vers.getD k 0 := ⟨_, rfl⟩
        have cx : wr.cell? ⟨bv, ov + k, none⟩ = some (.int .i64 x) := by rw [ex, hz]; exact HL.out.2.2.1 k hlt
        have EX : Hid _ := And.intro ex True.intro
        clear ex hz
        have hlt' : (k : Int) < (n : Int) := by omega
        have hk1' : IntKind.i64.wrap ((k : Int) + 1) = (k : Int) + 1 := by rw [IntKind.wrap_i64]; omega
        by_cases c1 : ¬ vok x
        · have hR : R = false := by
            rw [HK.out.2.2.2.2]
            refine decide_eq_false (fun q => ?_)
            have t := (q k hlt).1
            rw [← EX.out.1] at t
            exact c1 t
          subst hR
          have V : ∀ q, Calls Tryz.prog 42 #[.int .i64 x] (wr.drewN q) fun e w' => e = .returned (.bool false) ∧ w' = wr.drewN q := fun q => sVbad x _ c1
          have HV : Hid _ := And.intro V True.intro
          clear V c1
          go_wp2_with fail
          go_quiet (first | (go_at_call 42; exact Calls.quiet_of_same (HV.out.1 _)))
          go_wp2
          go_ret
          exact ⟨rfl, below_drewN HN.out.2.2 _⟩
        have c1' : vok x := Classical.not_not.1 c1
        have V : ∀ q, Calls Tryz.prog 42 #[.int .i64 x] (wr.drewN q) fun e w' => e = .returned (.bool true) ∧ w' = wr.drewN q := fun q => sVok x _ c1'
        have C : ∀ q, Calls Tryz.prog 21 #[.slice (some ⟨bv, ov + k, none⟩) 1 (p1 - k), .slice (some ⟨bv, ov, none⟩) k p1] (wr.drewN q) fun e w' => e = .returned (.int .i64 (if (h.vers.take k).contains x then x else 0)) ∧ ∃ m, w' = (wr.drewN q).drewN m := fun q => by
          have r := (HL.out.1.drewN z).drewN q
          rw [← HN.out.2.1] at r
          have ra := row_cutI r HL.out.2.1 k 1 (by omega)
          have rb := row_cutI r HL.out.2.1 0 k (by omega)
          have e1 : (h.vers.drop k).take 1 = [x] := by
            have hk' : k < h.vers.length := by rw [HL.out.2.1]; exact hlt
            rw [EX.out.1, List.drop_eq_getElem_cons hk']
            simp only [List.take_succ_cons, List.take_zero, List.getD, List.getElem?_eq_getElem hk', Option.getD_some]
          rw [e1] at ra
          rw [List.drop_zero] at rb
          have t := spec_chQ _ _ [x] (h.vers.take k) (wr.drewN q) ra rb (by simp) (by simp; omega)
          rw [chF_one] at t
          exact t
        have hncp : ¬ p1 = k := by omega
        have hpc1 : k + 1 ≤ p1 := by omega
        have hpc2 : k ≤ p1 := by omega
        have hx0 : 1 ≤ x := c1'.1
        have HV : Hid _ := And.intro V (And.intro C c1')
        clear V C c1 c1'
        cases hct : (h.vers.take k).contains x with
        | true =>
          rw [hct] at HV
          have hR : R = false := by
            rw [HK.out.2.2.2.2]
            refine decide_eq_false (fun q => ?_)
            obtain ⟨j, hj, ej⟩ := (take_contains h.vers k (by rw [HL.out.2.1]; omega) x).1 hct
            exact (q k hlt).2 j hj (by rw [ej, EX.out.1])
          subst hR
          have hx0' : (x != 0) = true := by simp; omega
          clear hct
          simp only [if_true] at HV
          go_wp2_with fail
          go_quiet (first | (go_at_call 42; exact Calls.quiet_of_same (HV.out.1 _)) | (go_at_call 21; exact Calls.quiet_of (HV.out.2.1 _)))
          go_wp2
          go_ret
          exact ⟨rfl, below_drewN HN.out.2.2 _⟩
        | false =>
          rw [hct] at HV
          have HCT : Hid _ := And.intro hct True.intro
          clear hct
          simp only [Bool.false_eq_true, if_false] at HV
          go_wp2_with fail
          go_quiet (first | (go_at_call 42; exact Calls.quiet_of_same (HV.out.1 _)) | (go_at_call 21; exact Calls.quiet_of (HV.out.2.1 _)))
          go_wp2
          go_roundg (n - (k + 1))
          case measure => omega
          case rel =>
            refine ⟨k + 1, by omega, rfl, by go_num, ⟨_, by rw [HN.out.2.1, World.drewN_drewN]⟩, fun j hj => ?_⟩
            by_cases hjk : j < k
            · exact HN.out.1 j hjk
            · obtain rfl : j = k := by omega
              refine ⟨by rw [← EX.out.1]; exact HV.out.2.2, fun j' hj' e => ?_⟩
              have t := (take_contains h.vers j (by rw [HL.out.2.1]; omega) x).2 ⟨j', hj', by rw [e, ← EX.out.1]⟩
              rw [HCT.out.1] at t
              cases t
      · have hR : R = true := by
          rw [HK.out.2.2.2.2]
          exact decide_eq_true (fun i hi => HN.out.1 i (by omega))
        subst hR
        clear hz
        go_wp2
        go_ret
        exact ⟨rfl, HN.out.2.2⟩
/-- The model's l12HelloOK. -/
theorem hokS (v : Value) (h : HE) (w : World) (hr : HERow w v h) (hs : h.small 9223372036854775807) :
    Calls Tryz.prog 20 #[v] w fun e w' => e = .returned (.bool (decide (heOK h))) ∧ Below w.heap.size w w' := by
  obtain ⟨a0, a1, a2, p0, p1, p2, v3, v4, v5, rfl, -, K⟩ := heK_new hr
  have no : ¬ heOK h → decide (heOK h) = false := fun q => decide_eq_false q
  by_cases c0 : h.rnd.length = 16
  · by_cases c2 : h.kd = 2
    · have e : decide (heOK h) = decide (heS h) := by
        rw [decide_eq_decide]
        exact ⟨fun q => by rcases q.2 with q | q; exact q.2; have := q.1; omega, fun q => ⟨c0, Or.inl ⟨c2, q⟩⟩⟩
      rw [e]
      exact hokS_srv h a0 a1 a2 p0 p1 p2 v3 v4 v5 w hs c2 c0 K
    · by_cases c1 : h.kd = 1 ∧ h.vr = 0 ∧ 1 ≤ h.vers.length ∧ h.vers.length ≤ 8
      · have e : decide (heOK h) = decide (heC h) := by
          rw [decide_eq_decide]
          exact ⟨fun q => by rcases q.2 with q | q; exact absurd q.1 c2; exact q.2, fun q => ⟨c0, Or.inr ⟨c1.1, q⟩⟩⟩
        rw [e]
        exact hokS_cli h a0 a1 a2 p0 p1 p2 v3 v4 v5 w hs c0 c1.1 c1.2.1 c1.2.2.1 c1.2.2.2 K
      · rw [no (fun q => by
          rcases q.2 with q | q
          · exact c2 q.1
          · exact c1 ⟨q.1, q.2.1, q.2.2.1.1.1, q.2.2.1.1.2⟩)]
        refine hokS_early h a0 a1 a2 p0 p1 p2 v3 v4 v5 w hs (Or.inr ⟨c0, c2, ?_⟩)
        by_cases d1 : h.kd = 1
        · refine Or.inr ⟨d1, ?_⟩
          by_cases d2 : h.vr = 0
          · refine Or.inr ⟨d2, ?_⟩
            rcases Nat.lt_or_ge h.vers.length 1 with q | q
            · exact Or.inl q
            · rcases Nat.lt_or_ge 8 h.vers.length with q2 | q2
              · exact Or.inr q2
              · exact absurd ⟨d1, d2, q, q2⟩ c1
          · exact Or.inl d2
        · exact Or.inl d1
  · rw [no (fun q => c0 q.1)]
    exact hokS_early h a0 a1 a2 p0 p1 p2 v3 v4 v5 w hs (Or.inl c0)
end Go.Proofs.YteggfkekgdlecaaGreatDoor
