import Derived.Test.YtdhkcejfcmobcaaDoorRyC
namespace Go.Proofs.YtdhkcejfcmobcaaDoor
open Go.RowKit
set_option linter.unusedVariables false

theorem roC_eq {L : List SField} (h1 : hdN L = 1) (h2 : ((L.getD 0 default).f0 == stN) = true) (h3 : spl (L.getD 0 default).f1 3 48 57 = true) : roC L = rsOK (dv (L.getD 0 default).f1 (L.getD 0 default).f1.size) (L.drop 1) ∧ (rsOK (dv (L.getD 0 default).f1 (L.getD 0 default).f1.size) (L.drop 1) = true → (L.getD 0 default).f1.size = 3) := by
  have hs : (L.getD 0 default).f1.size ≤ 3 ∧ inR (L.getD 0 default).f1 48 57 (L.getD 0 default).f1.size = true := by
    unfold spl at h3
    simp only [Bool.and_eq_true, decide_eq_true_eq] at h3
    exact ⟨by omega, h3.2⟩
  unfold roC
  rw [h1, h2, h3]
  simp only [decide_true, Bool.true_and]
  by_cases q : (L.getD 0 default).f1.size = 3
  · rw [q]; simp
  · have hl := dv_lt (L.getD 0 default).f1 (L.getD 0 default).f1.size hs.2
    have hp : (10 : Int) ^ (L.getD 0 default).f1.size ≤ 10 ^ 2 := by exact_mod_cast Nat.pow_le_pow_right (by decide) (by omega)
    have hp2 : (10 : Int) ^ 2 = 100 := by decide
    have hf : rsOK (dv (L.getD 0 default).f1 (L.getD 0 default).f1.size) (L.drop 1) = false := by
      unfold rsOK
      rw [decide_eq_false (by omega), Bool.false_and]
    rw [hf, decide_eq_false q]
    simp
set_option maxRecDepth 20000 in
set_option maxHeartbeats 8000000 in
theorem roI (v : Value) (base : Nat) (L : List SField) (w : World) (ow : GOwns 45 2 w base v (SField.L L)) (hR : L.length ≤ 1048576) (hf : fin L) (ht : txs L ≤ 1048576) :
    Calls Tryd.prog 17 #[v] w fun e w' => ∃ r, e = .returned (.tuple #[rV (roR L).st r, .int .i64 (roR L).code]) ∧ GOwns 45 2 w' w.heap.size r (SField.L (roR L).fs) ∧ Below w.heap.size w w' := by
  have hmf : ∀ (fn : Fn) (first cap : Array Value) (w : World), (Instr.makeFunc fn first cap).run Tryd.prog w = .ok (.func fn first cap) w := fun _ _ _ _ => rfl
  have h := ow.row
  have HW : Hid (RB1 w (w.alloc (.cells #[.int .i64 0, .slice none 0 0] 30))) := RB1.new w
  obtain ⟨y0, y1, fz0, fz1⟩ := HW.out.box
  unfold rV
  by_cases h64 : 64 < L.length
  · rw [show roR L = ⟨0, [], 4⟩ by unfold roR; rw [if_pos h64]]
    obtain ⟨ao, cp, rfl⟩ := frow_form h
    have h3 : (64 : Int) < (L.length : Int) := by omega
    obtain ⟨n, en⟩ : ∃ n, n = L.length := ⟨_, rfl⟩
    rw [← en] at h3 ⊢
    clear h ow hR hf ht h64 en
    simp only
    go_enter Tryd.func17, Tryd.ntmps17
    go_wp2
    try simp only [Exit.inBlock, Exit.then]
    refine bodyPost_ret (v := .tuple #[.agg #[.int .i64 0, .slice none 0 0], .int .i64 4]) ?_ rfl ?_
    · first
      | exact results_rtQ (ty := 30) rfl _ _ w.heap.size 30 _ (0, 0) _ _ rfl rfl (HW.out.tell 0 (.slice none 0 0)).1 Tryd.underlying30 rfl infoRespQ
      | exact results_rtQ (ty := 30) rfl _ _ w.heap.size 30 _ (0, 0) _ _ rfl rfl HW.out.k Tryd.underlying30 rfl infoRespQ
    · first
      | exact ⟨_, rfl, gown_nilQ _ _, (HW.out.tell 0 (.slice none 0 0)).2⟩
      | exact ⟨_, rfl, gown_nilQ _ _, HW.out.bw⟩
  have hR0 : roR L = if roC L = true then ⟨dv (L.getD 0 default).f1 3, L.drop 1, 0⟩ else ⟨0, [], 17⟩ := by unfold roR; rw [if_neg h64]
  have h3 : ¬ ((64 : Int) < (L.length : Int)) := by omega
  have a2 : Below (w.alloc (.cells #[.int .i64 0, .slice none 0 0] 30)).heap.size (w.alloc (.cells #[.int .i64 0, .slice none 0 0] 30)) ((w.alloc (.cells #[.int .i64 0, .slice none 0 0] 30)).alloc (.cells #[.string ⟨#[]⟩] 9)) := (Below.refl _ _).alloc (Nat.le_refl _) _
  have b2 : Below w.heap.size w ((w.alloc (.cells #[.int .i64 0, .slice none 0 0] 30)).alloc (.cells #[.string ⟨#[]⟩] 9)) := HW.out.bw.trans (a2.mono (by simp))
  have k2 : ((w.alloc (.cells #[.int .i64 0, .slice none 0 0] 30)).alloc (.cells #[.string ⟨#[]⟩] 9)).heap[w.heap.size + 1]? = some (.cells #[.string ⟨#[]⟩] 9) := by
    have q := heap_alloc_new (w.alloc (.cells #[.int .i64 0, .slice none 0 0] 30)) (.cells #[.string ⟨#[]⟩] 9)
    rw [show (w.alloc (.cells #[.int .i64 0, .slice none 0 0] 30)).heap.size = w.heap.size + 1 by simp] at q
    exact q
  have W2 : RB1 w ((w.alloc (.cells #[.int .i64 0, .slice none 0 0] 30)).alloc (.cells #[.string ⟨#[]⟩] 9)) := HW.out.next a2
  have CL := ldI (w.heap.size + 1) v base L ((w.alloc (.cells #[.int .i64 0, .slice none 0 0] 30)).alloc (.cells #[.string ⟨#[]⟩] 9)) (ow.below b2) hR hf (fun k hk => by have := (ow.ltFQ k hk).2; omega) k2
  have CD : ∀ (t : ByteArray) (u : World), t.size ≤ 9223372036854775807 → _ := fun t u z => decI t 3 (by decide) u z
  have hfd : fin (L.drop 1) := fun j hj => by
    rw [List.length_drop] at hj
    have q := hf (j + 1) (by omega)
    rw [show (L.drop 1).getD j default = L.getD (j + 1) default by simp [List.getD]]
    exact q
  have CR : ∀ (st : Int) (r : Value) (u : World), GRow 2 u r (SField.L (L.drop 1)) → _ := fun st r u hr => rsI st r (L.drop 1) u hr (by rw [List.length_drop]; omega) hfd
  have CC : ∀ (r : Value) (u : World), GRow 2 u r (SField.L (L.drop 1)) → _ := fun r u hr => clnI r (L.drop 1) u hr (by rw [List.length_drop]; omega) (fun j hj => by
    rw [List.length_drop] at hj
    have q := txs_at L (j + 1) (by omega)
    rw [show (L.drop 1).getD j default = L.getD (j + 1) default by simp [List.getD]]
    omega)
  obtain ⟨ao, cp, rfl⟩ := frow_form h
  obtain ⟨n, en⟩ : ∃ n, n = L.length := ⟨_, rfl⟩
  rw [← en] at CL h3 ⊢
  have HS : Hid _ := And.intro CL (And.intro CD (And.intro CR (And.intro CC (And.intro hR0 W2))))
  clear CL CD CR CC hR0 W2 h ow hR hf hfd ht h64 en a2 b2 k2
  go_enter Tryd.func17, Tryd.ntmps17
  go_wp2_with fail
  go_at_call 30
  refine HS.out.1.mono ?_
  rintro e w3 ⟨t, beh, ok, rfl, k3, z3, b3, f1, f2, f3⟩
  have W3 : RB1 w w3 := HS.out.2.2.2.2.2.nextB b3 (by omega)
  have t3 : w3.cell? ⟨w.heap.size + 1, 0, none⟩ = some (.string t) := by rw [bk_cell k3]; rfl
  have H3 : Hid _ := And.intro W3 (And.intro f1 (And.intro f2 (And.intro f3 z3)))
  clear W3 k3 z3 b3 f1 f2 f3 y0 y1 fz0 fz1
  go_wp2_with fail
  go_at_call 32
  refine (HS.out.2.1 t w3 H3.out.2.2.2.2).mono ?_
  rintro e w4 ⟨rfl, b4⟩
  have W4 : RB1 w w4 := H3.out.1.next b4
  obtain ⟨y0, y1, fz0, fz1⟩ := W4.box
  have HV : Hid _ := W4
  have HB4 : Hid _ := b4
  clear W4 b4 t3
  cases ok with
  | false =>
    have HF : Hid (roR L = ⟨0, [], 17⟩) := by show roR L = _; rw [HS.out.2.2.2.2.1, H3.out.2.1 rfl]; rfl
    go_wp2
    try simp only [Exit.inBlock, Exit.then]
    rw [HF.out]
    refine bodyPost_ret (v := .tuple #[.agg #[.int .i64 0, .slice none 0 0], .int .i64 17]) ?_ rfl ?_
    · first
      | exact results_rtQ (ty := 30) rfl _ _ w.heap.size 30 _ (0, 0) _ _ rfl rfl (HV.out.tell 0 (.slice none 0 0)).1 Tryd.underlying30 rfl infoRespQ
      | exact results_rtQ (ty := 30) rfl _ _ w.heap.size 30 _ (0, 0) _ _ rfl rfl HV.out.k Tryd.underlying30 rfl infoRespQ
    · first
      | exact ⟨_, rfl, gown_nilQ _ _, (HV.out.tell 0 (.slice none 0 0)).2⟩
      | exact ⟨_, rfl, gown_nilQ _ _, HV.out.bw⟩
  | true =>
  cases hs : spl t 3 48 57 with
  | false =>
    have HF : Hid (roR L = ⟨0, [], 17⟩) := by show roR L = _; rw [HS.out.2.2.2.2.1, H3.out.2.2.1 rfl hs]; rfl
    clear hs
    go_wp2
    try simp only [Exit.inBlock, Exit.then]
    rw [HF.out]
    refine bodyPost_ret (v := .tuple #[.agg #[.int .i64 0, .slice none 0 0], .int .i64 17]) ?_ rfl ?_
    · first
      | exact results_rtQ (ty := 30) rfl _ _ w.heap.size 30 _ (0, 0) _ _ rfl rfl (HV.out.tell 0 (.slice none 0 0)).1 Tryd.underlying30 rfl infoRespQ
      | exact results_rtQ (ty := 30) rfl _ _ w.heap.size 30 _ (0, 0) _ _ rfl rfl HV.out.k Tryd.underlying30 rfl infoRespQ
    · first
      | exact ⟨_, rfl, gown_nilQ _ _, (HV.out.tell 0 (.slice none 0 0)).2⟩
      | exact ⟨_, rfl, gown_nilQ _ _, HV.out.bw⟩
  | true =>
  obtain ⟨p1, p2, p3, p4⟩ := H3.out.2.2.2.1 rfl hs
  obtain ⟨ra, rc, er⟩ := frow_form p4
  obtain ⟨m, em⟩ : ∃ m, m = (L.drop 1).length := ⟨_, rfl⟩
  rw [← em] at er
  subst er
  have hdc : dcV t 3 = dv t t.size := by unfold dcV; rw [hs]; rfl
  rw [hdc]
  have E := roC_eq p1 p2 (by rw [← p3]; exact hs)
  have hR0 := HS.out.2.2.2.2.1
  rw [E.1] at hR0
  rw [← p3] at E hR0
  have H4 : Hid _ := And.intro (p4.below HB4.out) (And.intro hR0 E.2)
  clear p1 p2 p3 p4 em hs hdc E hR0
  obtain ⟨S, eS⟩ : ∃ S, S = dv t t.size := ⟨_, rfl⟩
  have ES : Hid _ := eS
  rw [← eS] at H4 ⊢
  clear eS
  go_wp2_with fail
  go_at_call 21
  refine (HS.out.2.2.1 S _ w4 H4.out.1).mono ?_
  rintro e w5 ⟨rfl, b5⟩
  have W5 : RB1 w w5 := HV.out.next b5
  have R5 := H4.out.1.below b5
  clear y0 y1 fz0 fz1
  obtain ⟨y0, y1, fz0, fz1⟩ := W5.box
  have H5 : Hid _ := W5
  have HR5 : Hid _ := R5
  clear W5 R5 b5
  cases hK : rsOK S (L.drop 1) with
  | false =>
    have HF : Hid (roR L = ⟨0, [], 17⟩) := by show roR L = _; rw [H4.out.2.1, hK]; rfl
    clear hK
    go_wp2
    try simp only [Exit.inBlock, Exit.then]
    rw [HF.out]
    refine bodyPost_ret (v := .tuple #[.agg #[.int .i64 0, .slice none 0 0], .int .i64 17]) ?_ rfl ?_
    · first
      | exact results_rtQ (ty := 30) rfl _ _ w.heap.size 30 _ (0, 0) _ _ rfl rfl (H5.out.tell 0 (.slice none 0 0)).1 Tryd.underlying30 rfl infoRespQ
      | exact results_rtQ (ty := 30) rfl _ _ w.heap.size 30 _ (0, 0) _ _ rfl rfl H5.out.k Tryd.underlying30 rfl infoRespQ
    · first
      | exact ⟨_, rfl, gown_nilQ _ _, (H5.out.tell 0 (.slice none 0 0)).2⟩
      | exact ⟨_, rfl, gown_nilQ _ _, H5.out.bw⟩
  | true =>
    have HF : Hid (roR L = ⟨S, L.drop 1, 0⟩) := by show roR L = _; rw [H4.out.2.1, hK, ES.out, H4.out.2.2 hK]; rfl
    clear hK
    go_wp2_with fail
    go_at_call 23
    refine (HS.out.2.2.2.1 _ w5 HR5.out).mono ?_
    rintro e w6 ⟨r6, rfl, o6, b6⟩
    have W6 : RB1 w w6 := H5.out.next b6
    clear y0 y1 fz0 fz1
    obtain ⟨y0, y1, fz0, fz1⟩ := W6.box
    obtain ⟨ra6, rc6, er6⟩ := frow_form o6.row
    obtain ⟨m6, em6⟩ : ∃ m, m = (L.drop 1).length := ⟨_, rfl⟩
    rw [← em6] at er6
    clear em6
    subst er6
    have l5 : w.heap.size < w5.heap.size := H5.out.lt
    have H6 : Hid _ := And.intro W6 (And.intro o6 l5)
    clear W6 o6 b6 l5
    go_wp2
    try simp only [Exit.inBlock, Exit.then]
    rw [HF.out]
    refine bodyPost_ret (v := .tuple #[.agg #[.int .i64 S, .slice ra6 m6 rc6], .int .i64 0]) ?_ rfl ?_
    · exact results_rtQ (ty := 30) rfl _ _ w.heap.size 30 _ (0, 0) _ _ rfl rfl (H6.out.1.tell _ (.slice ra6 m6 rc6)).1 Tryd.underlying30 rfl infoRespQ
    · exact ⟨_, rfl, (gown_setQ (gown_setQ H6.out.2.1 (g := w.heap.size) H6.out.2.2) (g := w.heap.size) H6.out.2.2).mono (Nat.le_of_lt H6.out.2.2), (H6.out.1.tell _ (.slice ra6 m6 rc6)).2⟩
end Go.Proofs.YtdhkcejfcmobcaaDoor
