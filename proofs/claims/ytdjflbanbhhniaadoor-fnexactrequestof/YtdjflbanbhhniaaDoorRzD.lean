import Derived.Test.YtdjflbanbhhniaaDoorRzC
import Derived.Test.YtdjflbanbhhniaaDoorQpJ
import Derived.Test.YtdjflbanbhhniaaDoorRqD
import Derived.Deep.RegionHeld3
namespace Go.Proofs.YtdjflbanbhhniaaDoor
open Go.RowKit
set_option linter.unusedVariables false

def Q4.sm (q : Q4) : Prop := q.m.size ≤ 1048576 ∧ q.s.size ≤ 1048576 ∧ q.a.size ≤ 1048576 ∧ q.p.size ≤ 1048576
theorem qStep_sm {q q' : Q4} {f : SField} (h : qStep q f = some q') (hq : q.sm) (hf : f.f1.size ≤ 1048576) : q'.sm := by
  obtain ⟨h1, h2, h3, h4⟩ := hq
  unfold qStep at h
  split at h
  · cases h
  · split at h
    · split at h
      · cases h; exact ⟨hf, h2, h3, h4⟩
      · cases h
    · split at h
      · split at h
        · cases h; exact ⟨h1, hf, h3, h4⟩
        · cases h
      · split at h
        · split at h
          · cases h; exact ⟨h1, h2, h3, hf⟩
          · cases h
        · split at h
          · split at h
            · cases h; exact ⟨h1, h2, hf, h4⟩
            · cases h
          · cases h
theorem qAt_sm {L : List SField} (hf : ∀ k, k < L.length → (L.getD k default).f1.size ≤ 1048576) : ∀ (k : Nat) (q : Q4), k ≤ L.length → qAt L k = some q → q.sm
  | 0, q, _, h => by cases h; exact ⟨by decide, by decide, by decide, by decide⟩
  | k + 1, q, hk, h => by
    cases e : qAt L k with
    | none => simp only [qAt, e] at h; cases h
    | some q1 =>
      simp only [qAt, e] at h
      exact qStep_sm h (qAt_sm hf k q1 (by omega) e) (hf k (by omega))
set_option maxRecDepth 20000 in
set_option maxHeartbeats 16000000 in
theorem rzI (v : Value) (base : Nat) (L : List SField) (w : World) (ow : GOwns 44 2 w base v (SField.L L)) (hR : L.length ≤ 1048576) (hf : fin L) (ht : txs L ≤ 1048576) :
    Calls Tryd.prog 17 #[v] w fun e w' => ∃ r, e = .returned (.tuple #[qV (rzR L).q.m (rzR L).q.s (rzR L).q.a (rzR L).q.p r, .int .i64 (rzR L).code]) ∧ GOwns 44 2 w' w.heap.size r (SField.L (rzR L).fs) ∧ Below w.heap.size w w' := by
  have hmf : ∀ (fn : Fn) (first cap : Array Value) (w : World), (Instr.makeFunc fn first cap).run Tryd.prog w = .ok (.func fn first cap) w := fun _ _ _ _ => rfl
  have h := ow.row
  have b1 : Below w.heap.size w (w.alloc (.cells #[.string ⟨#[]⟩, .string ⟨#[]⟩, .string ⟨#[]⟩, .string ⟨#[]⟩, .slice none 0 0] 30)) := (Below.refl _ _).alloc (Nat.le_refl _) _
  have HW : Hid (QB (w.alloc (.cells #[.string ⟨#[]⟩, .string ⟨#[]⟩, .string ⟨#[]⟩, .string ⟨#[]⟩, .slice none 0 0] 30)) w.heap.size q0 (.slice none 0 0) ∧ Below w.heap.size w (w.alloc (.cells #[.string ⟨#[]⟩, .string ⟨#[]⟩, .string ⟨#[]⟩, .string ⟨#[]⟩, .slice none 0 0] 30))) := And.intro (heap_alloc_new _ _) b1
  unfold qV
  by_cases h64 : 64 < L.length
  · rw [show rzR L = ⟨q0, [], 4⟩ by unfold rzR; rw [if_pos h64]]
    obtain ⟨ao, cp, rfl⟩ := frow_form h
    have h3 : (64 : Int) < (L.length : Int) := by omega
    obtain ⟨n, en⟩ : ∃ n, n = L.length := ⟨_, rfl⟩
    rw [← en] at h3 ⊢
    clear h ow hR hf ht h64 en b1
    simp only
    go_enter Tryd.func17, Tryd.ntmps17
    go_wp2
    try simp only [Exit.inBlock, Exit.then]
    refine bodyPost_ret (v := .tuple #[.agg #[.string ⟨#[]⟩, .string ⟨#[]⟩, .string ⟨#[]⟩, .string ⟨#[]⟩, .slice none 0 0], .int .i64 4]) ?_ rfl ?_
    · exact results_rtZ (ty := 30) rfl _ _ w.heap.size 30 _ (0, 0) _ _ rfl rfl HW.out.1 Tryd.underlying30 rfl infoReqQ
    · exact ⟨_, rfl, gown_nilR _ _, HW.out.2⟩
  have h3 : ¬ ((64 : Int) < (L.length : Int)) := by omega
  have b2 : Below w.heap.size w ((w.alloc (.cells #[.string ⟨#[]⟩, .string ⟨#[]⟩, .string ⟨#[]⟩, .string ⟨#[]⟩, .slice none 0 0] 30)).alloc (.cells #[.string ⟨#[]⟩, .string ⟨#[]⟩, .string ⟨#[]⟩, .string ⟨#[]⟩, .slice none 0 0] 30)) := b1.alloc (by simp) _
  have k2 : QB ((w.alloc (.cells #[.string ⟨#[]⟩, .string ⟨#[]⟩, .string ⟨#[]⟩, .string ⟨#[]⟩, .slice none 0 0] 30)).alloc (.cells #[.string ⟨#[]⟩, .string ⟨#[]⟩, .string ⟨#[]⟩, .string ⟨#[]⟩, .slice none 0 0] 30)) w.heap.size q0 (.slice none 0 0) := (((Below.refl (w.alloc (.cells #[.string ⟨#[]⟩, .string ⟨#[]⟩, .string ⟨#[]⟩, .string ⟨#[]⟩, .slice none 0 0] 30)).heap.size (w.alloc (.cells #[.string ⟨#[]⟩, .string ⟨#[]⟩, .string ⟨#[]⟩, .string ⟨#[]⟩, .slice none 0 0] 30))).alloc (Nat.le_refl _) (.cells #[.string ⟨#[]⟩, .string ⟨#[]⟩, .string ⟨#[]⟩, .string ⟨#[]⟩, .slice none 0 0] 30)).block _ (by simp)).trans (heap_alloc_new w (.cells #[.string ⟨#[]⟩, .string ⟨#[]⟩, .string ⟨#[]⟩, .string ⟨#[]⟩, .slice none 0 0] 30))
  have j2 : QB ((w.alloc (.cells #[.string ⟨#[]⟩, .string ⟨#[]⟩, .string ⟨#[]⟩, .string ⟨#[]⟩, .slice none 0 0] 30)).alloc (.cells #[.string ⟨#[]⟩, .string ⟨#[]⟩, .string ⟨#[]⟩, .string ⟨#[]⟩, .slice none 0 0] 30)) (w.heap.size + 1) q0 (.slice none 0 0) := by
    have q := heap_alloc_new (w.alloc (.cells #[.string ⟨#[]⟩, .string ⟨#[]⟩, .string ⟨#[]⟩, .string ⟨#[]⟩, .slice none 0 0] 30)) (.cells #[.string ⟨#[]⟩, .string ⟨#[]⟩, .string ⟨#[]⟩, .string ⟨#[]⟩, .slice none 0 0] 30)
    rw [show (w.alloc (.cells #[.string ⟨#[]⟩, .string ⟨#[]⟩, .string ⟨#[]⟩, .string ⟨#[]⟩, .slice none 0 0] 30)).heap.size = w.heap.size + 1 by simp] at q
    exact q
  have HL := hd_le L
  have CL := ldQ (w.heap.size + 1) v base L ((w.alloc (.cells #[.string ⟨#[]⟩, .string ⟨#[]⟩, .string ⟨#[]⟩, .string ⟨#[]⟩, .slice none 0 0] 30)).alloc (.cells #[.string ⟨#[]⟩, .string ⟨#[]⟩, .string ⟨#[]⟩, .string ⟨#[]⟩, .slice none 0 0] 30)) (ow.below b2) hR hf (fun k hk => by have := (ow.ltFQ k hk).2; omega) j2
  have hR0 : rzR L = match qAt L (hdN L) with
      | none => ⟨q0, [], 17⟩
      | some q => if rqOK q.m q.s q.a q.p (L.drop (hdN L)) = true then ⟨q, L.drop (hdN L), 0⟩ else ⟨q0, [], 17⟩ := by unfold rzR; rw [if_neg h64]; cases qAt L (hdN L) <;> rfl
  have sz : ∀ q, qAt L (hdN L) = some q → q.fin ∧ q.sm := fun q e => ⟨qAt_fin hf _ q HL e, qAt_sm (fun k hk => by have := txs_at L k hk; omega) _ q HL e⟩
  obtain ⟨N, eN⟩ : ∃ N, N = hdN L := ⟨_, rfl⟩
  have hdl : (L.drop N).length ≤ 4096 := by rw [List.length_drop]; omega
  have hfd : fin (L.drop N) := fun j hj => by
    rw [List.length_drop] at hj
    have q := hf (j + N) (by omega)
    rw [show (L.drop N).getD j default = L.getD (j + N) default by simp [List.getD, Nat.add_comm]]
    exact q
  have CC : ∀ (r : Value) (u : World), GRow 2 u r (SField.L (L.drop N)) → _ := fun r u hr => clnI r (L.drop N) u hr hdl (fun j hj => by
    rw [List.length_drop] at hj
    have q := txs_at L (j + N) (by omega)
    rw [show (L.drop N).getD j default = L.getD (j + N) default by simp [List.getD, Nat.add_comm]]
    omega)
  have CR : ∀ (q : Q4) (r : Value) (u : World), q.fin → GRow 2 u r (SField.L (L.drop N)) → _ := fun q r u z hr => reqI q.m q.s q.a q.p r (L.drop N) u hr (by omega) hfd z.1 z.2.1 z.2.2.1 z.2.2.2
  unfold LqP at CL
  rw [← eN] at CL hR0 sz
  obtain ⟨ao, cp, rfl⟩ := frow_form h
  obtain ⟨n, en⟩ : ∃ n, n = L.length := ⟨_, rfl⟩
  rw [← en] at h3 CL ⊢
  have HS : Hid _ := And.intro CL (And.intro CR (And.intro CC (And.intro hR0 (And.intro sz (And.intro k2 b2)))))
  clear CL CR CC hR0 sz k2 b2 j2 HL hdl hfd h ow hR hf ht h64 en eN b1 HW
  go_enter Tryd.func17, Tryd.ntmps17
  go_wp2_with fail
  go_at_call 27
  refine HS.out.1.mono ?_
  rintro e w3 ⟨q, beh, ok, rfl, k3, b3, f1, f2⟩
  have R3 := HS.out.2.2.2.2.2.1.below b3 (by omega)
  have B3 := HS.out.2.2.2.2.2.2.trans (b3.mono (by omega))
  obtain ⟨y0, y1, y2, y3, y4⟩ := k3.cel
  obtain ⟨z0, z1, z2, z3, z4⟩ := k3.free
  obtain ⟨e0, e1, e2, e3, e4⟩ := R3.cel
  obtain ⟨g0, g1, g2, g3, g4⟩ := R3.free
  have lk := k3.lt
  have K4 := k3.set4 beh
  have R4 := QB.other (k := w.heap.size + 1) (i := 4) (v := beh) R3 (by omega)
  have B4 := B3.setCell (p := ⟨w.heap.size + 1, 4, none⟩) (by show w.heap.size ≤ w.heap.size + 1; omega) beh
  cases ok with
  | false =>
    have HF : Hid (rzR L = ⟨q0, [], 17⟩) := by show rzR L = _; rw [HS.out.2.2.2.1, (f1 rfl).1]
    obtain rfl := (f1 rfl).2
    have HR : Hid _ := And.intro R4 B4
    clear k3 b3 f1 f2 R3 B3 K4 R4 B4
    go_wp2
    try simp only [Exit.inBlock, Exit.then]
    rw [HF.out]
    refine bodyPost_ret (v := .tuple #[.agg #[.string ⟨#[]⟩, .string ⟨#[]⟩, .string ⟨#[]⟩, .string ⟨#[]⟩, .slice none 0 0], .int .i64 17]) ?_ rfl ?_
    · exact results_rtZ (ty := 30) rfl _ _ w.heap.size 30 _ (0, 0) _ _ rfl rfl (QB.all (q' := q0) (r' := .slice none 0 0) HR.out.1) Tryd.underlying30 rfl infoReqQ
    · exact ⟨_, rfl, gown_nilR _ _, below5 HR.out.2 (Nat.le_refl _) _ _ _ _ _⟩
  | true =>
  obtain ⟨p1, p2⟩ := f2 rfl
  obtain ⟨ra, rc, er⟩ := frow_form (p2 w3 (Below.refl _ _))
  obtain ⟨m, em⟩ : ∃ m, m = (L.drop N).length := ⟨_, rfl⟩
  rw [← em] at er
  subst er
  have G4 := p2 _ ((Below.refl (w.heap.size + 1) w3).setCell (p := ⟨w.heap.size + 1, 4, none⟩) (Nat.le_refl _) (.slice ra m rc))
  have hR1 := HS.out.2.2.2.1
  rw [p1] at hR1
  simp only at hR1
  have HQ : Hid _ := HS.out.2.2.2.2.1 q p1
  have H4 : Hid _ := And.intro K4 (And.intro R4 (And.intro B4 (And.intro G4 hR1)))
  clear k3 b3 f1 f2 R3 B3 K4 R4 B4 p1 p2 em G4 hR1
  go_wp2_with fail
  go_at_call 20
  have CR := HS.out.2.1 q (.slice ra m rc) _ HQ.out.1 H4.out.2.2.2.1
  cases hK : rqOK q.m q.s q.a q.p (L.drop N) with
  | false =>
    rw [hK] at CR
    refine CR.mono ?_
    clear CR
    rintro e w6 ⟨rfl, b6⟩
    have R6 := H4.out.2.1.below b6 H4.out.2.1.lt
    have HR : Hid _ := And.intro R6 (H4.out.2.2.1.trans (b6.mono H4.out.2.2.1.size))
    have HF : Hid (rzR L = ⟨q0, [], 17⟩) := by show rzR L = _; rw [H4.out.2.2.2.2, hK]; rfl
    clear hK b6 y0 y1 y2 y3 y4 z0 z1 z2 z3 z4 e0 e1 e2 e3 e4 g0 g1 g2 g3 g4
    obtain ⟨e0, e1, e2, e3, e4⟩ := R6.cel
    obtain ⟨g0, g1, g2, g3, g4⟩ := R6.free
    clear R6
    go_wp2
    try simp only [Exit.inBlock, Exit.then]
    rw [HF.out]
    refine bodyPost_ret (v := .tuple #[.agg #[.string ⟨#[]⟩, .string ⟨#[]⟩, .string ⟨#[]⟩, .string ⟨#[]⟩, .slice none 0 0], .int .i64 17]) ?_ rfl ?_
    · exact results_rtZ (ty := 30) rfl _ _ w.heap.size 30 _ (0, 0) _ _ rfl rfl (QB.all (q' := q0) (r' := .slice none 0 0) HR.out.1) Tryd.underlying30 rfl infoReqQ
    · exact ⟨_, rfl, gown_nilR _ _, below5 HR.out.2 (Nat.le_refl _) _ _ _ _ _⟩
  | true =>
  rw [hK] at CR
  refine CR.mono ?_
  clear CR
  rintro e w6 ⟨rfl, b6⟩
  have b7 : Below (w3.setCell ⟨w.heap.size + 1, 4, none⟩ (.slice ra m rc)).heap.size (w3.setCell ⟨w.heap.size + 1, 4, none⟩ (.slice ra m rc)) w6.drew := b6.trans ((drew_belowQ w6).mono b6.size)
  have R6 := H4.out.2.1.below b7 H4.out.2.1.lt
  have K6 := H4.out.1.below b7 H4.out.1.lt
  have R5 := H4.out.2.1.below b6 H4.out.2.1.lt
  have K5 := H4.out.1.below b6 H4.out.1.lt
  have HC0 : Hid _ := And.intro K6 (And.intro R6 (And.intro (H4.out.2.2.1.trans (b7.mono H4.out.2.2.1.size)) (H4.out.2.2.2.1.below b7)))
  have HF : Hid (rzR L = ⟨q, L.drop N, 0⟩) := by show rzR L = _; rw [H4.out.2.2.2.2, hK]; rfl
  clear hK b6 b7 y0 y1 y2 y3 y4 z0 z1 z2 z3 z4 e0 e1 e2 e3 e4 g0 g1 g2 g3 g4
  obtain ⟨y0, y1, y2, y3, y4⟩ := K5.cel
  obtain ⟨x00, x01, x02, x03, x04⟩ := K6.cel
  clear R6 K6 R5 K5
  have tok0 : True := trivial
  have tok1 : True := trivial
  have tok2 : True := trivial
  have tok3 : True := trivial
  have tok4 : True := trivial
  go_upto_region 8 with fail
  go_region_held3 (fun w' => w'.cell? ⟨w.heap.size + 1, 0, none⟩ = some (.string q.m) ∧ w'.cell? ⟨w.heap.size + 1, 1, none⟩ = some (.string q.s) ∧ w'.cell? ⟨w.heap.size + 1, 2, none⟩ = some (.string q.a) ∧ w'.cell? ⟨w.heap.size + 1, 3, none⟩ = some (.string q.p)) (go_keep)
    (first
      | (go_at_call 29; have _t := tok0; refine (cloneC q.m _ HQ.out.2.1).mono ?_; rintro e wc1 ⟨rfl, bc⟩; have KC := HC0.out.1.below bc HC0.out.1.lt; have RC := HC0.out.2.1.below bc HC0.out.2.1.lt; obtain ⟨x10, x11, x12, x13, x14⟩ := KC.cel; obtain ⟨t10, t11, t12, t13, t14⟩ := RC.cel; obtain ⟨s10, s11, s12, s13, s14⟩ := RC.free; have HC1 : Hid _ := And.intro KC (And.intro RC (And.intro (HC0.out.2.2.1.trans (bc.mono HC0.out.2.2.1.size)) (HC0.out.2.2.2.below bc))); clear KC RC bc tok0)
      | (go_at_call 29; have _t := tok1; refine (cloneC q.s _ HQ.out.2.2.1).mono ?_; rintro e wc2 ⟨rfl, bc⟩; have KC := HC1.out.1.below bc HC1.out.1.lt; have RC := HC1.out.2.1.below bc HC1.out.2.1.lt; obtain ⟨x20, x21, x22, x23, x24⟩ := KC.cel; obtain ⟨t20, t21, t22, t23, t24⟩ := RC.cel; obtain ⟨s20, s21, s22, s23, s24⟩ := RC.free; have HC2 : Hid _ := And.intro KC (And.intro RC (And.intro (HC1.out.2.2.1.trans (bc.mono HC1.out.2.2.1.size)) (HC1.out.2.2.2.below bc))); clear KC RC bc tok1)
      | (go_at_call 29; have _t := tok2; refine (cloneC q.a _ HQ.out.2.2.2.1).mono ?_; rintro e wc3 ⟨rfl, bc⟩; have KC := HC2.out.1.below bc HC2.out.1.lt; have RC := HC2.out.2.1.below bc HC2.out.2.1.lt; obtain ⟨x30, x31, x32, x33, x34⟩ := KC.cel; obtain ⟨t30, t31, t32, t33, t34⟩ := RC.cel; obtain ⟨s30, s31, s32, s33, s34⟩ := RC.free; have HC3 : Hid _ := And.intro KC (And.intro RC (And.intro (HC2.out.2.2.1.trans (bc.mono HC2.out.2.2.1.size)) (HC2.out.2.2.2.below bc))); clear KC RC bc tok2)
      | (go_at_call 29; have _t := tok3; refine (cloneC q.p _ HQ.out.2.2.2.2).mono ?_; rintro e wc4 ⟨rfl, bc⟩; have KC := HC3.out.1.below bc HC3.out.1.lt; have RC := HC3.out.2.1.below bc HC3.out.2.1.lt; obtain ⟨x40, x41, x42, x43, x44⟩ := KC.cel; obtain ⟨t40, t41, t42, t43, t44⟩ := RC.cel; obtain ⟨s40, s41, s42, s43, s44⟩ := RC.free; have HC4 : Hid _ := And.intro KC (And.intro RC (And.intro (HC3.out.2.2.1.trans (bc.mono HC3.out.2.2.1.size)) (HC3.out.2.2.2.below bc))); clear KC RC bc tok3)
      | (go_at_call 21; have _t := tok4; refine (HS.out.2.2.1 (.slice ra m rc) _ HC4.out.2.2.2).mono ?_; rintro e wc5 ⟨r5, rfl, o5, bc⟩; obtain ⟨va, vc, ev⟩ := frow_form o5.row; obtain ⟨m5, em5⟩ : ∃ m5, m5 = (L.drop N).length := ⟨_, rfl⟩; rw [← em5] at ev; subst ev; clear em5; have RC := HC4.out.2.1.below bc HC4.out.2.1.lt; have KC := HC4.out.1.below bc HC4.out.1.lt; obtain ⟨x50, x51, x52, x53, x54⟩ := KC.cel; obtain ⟨t50, t51, t52, t53, t54⟩ := RC.cel; obtain ⟨s50, s51, s52, s53, s54⟩ := RC.free; have HC5 : Hid _ := And.intro RC (And.intro (HC4.out.2.2.1.trans (bc.mono HC4.out.2.2.1.size)) (And.intro o5 (And.intro HC4.out.2.1.lt HC4.out.2.2.1.size))); clear RC KC o5 bc tok4))
  all_goals
    go_wp2
    try simp only [Exit.inBlock, Exit.then]
    rw [HF.out]
    refine bodyPost_ret (v := .tuple #[.agg #[.string q.m, .string q.s, .string q.a,   .string q.p, .slice va m5 vc], .int .i64 0]) ?_ rfl ?_
    · exact results_rtZ (ty := 30) rfl _ _ w.heap.size 30 _ (0, 0) _ _ rfl rfl (QB.all (q' := q) (r' := .slice va m5 vc) HC5.out.1) Tryd.underlying30 rfl infoReqQ
    · exact ⟨_, rfl, (gown_setR (gown_setR (gown_setR (gown_setR (gown_setR HC5.out.2.2.1 HC5.out.2.2.2.1) HC5.out.2.2.2.1) HC5.out.2.2.2.1) HC5.out.2.2.2.1) HC5.out.2.2.2.1).mono HC5.out.2.2.2.2, below5 HC5.out.2.1 (Nat.le_refl _) _ _ _ _ _⟩
end Go.Proofs.YtdjflbanbhhniaaDoor
