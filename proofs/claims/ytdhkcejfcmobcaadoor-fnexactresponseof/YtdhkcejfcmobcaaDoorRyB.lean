import Derived.Test.YtdhkcejfcmobcaaDoorRyA
import Derived.Test.YtdhkcejfcmobcaaDoorRqA
import Derived.Test.YtdhkcejfcmobcaaDoorQpB
import Derived.Deep.RegionHeld3
import Derived.Deep.CutRange
namespace Go.Proofs.YtdhkcejfcmobcaaDoor
open Go.RowKit
set_option linter.unusedVariables false

theorem results_rtQ {P : Program} {fn : Func} {p q : Tmp} {ty : TypeId} (h : fn.results = #[.cell p ty, .tmp q]) (tmps : Array Value) (w : World) (g : Nat) (t : TypeId) (cs : Array Value) (fr : Nat × Nat) (d : TypeDesc) (u : Value)
    (hp : tmps.getD p undef = .pointer (some ⟨g, 0, none⟩)) (hq : tmps.getD q undef = u) (hg : w.heap[g]? = some (.cells cs t fr))
    (hu : P.underlying ty = some d) (hd : (match d with | .struct _ | .array _ _ => true | _ => false) = true) (hi : (P.info? ty).map (·.size) = some cs.size) :
    (results fn tmps).run P w = .ok (.tuple #[.agg cs, u]) w := by
  have hp' : tmps[p]?.getD undef = .pointer (some ⟨g, 0, none⟩) := by simpa using hp
  have hq' : tmps[q]?.getD undef = u := by simpa using hq
  simp [results, h, hp', hq', asAddr, run_loadVar_row w g t ty cs fr d hg hu hd hi]
/-- The answer's box, still empty. -/
structure RB1 (w u : World) : Prop where
  k : u.heap[w.heap.size]? = some (.cells #[.int .i64 0, .slice none 0 0] 30 (0, 0))
  bw : Below w.heap.size w u
theorem RB1.new (w : World) : RB1 w (w.alloc (.cells #[.int .i64 0, .slice none 0 0] 30)) := ⟨heap_alloc_new _ _, (Below.refl _ _).alloc (Nat.le_refl _) _⟩
theorem RB1.lt {w u : World} (h : RB1 w u) : w.heap.size < u.heap.size := (Array.getElem?_eq_some_iff.1 h.k).1
theorem RB1.next {w u u' : World} (h : RB1 w u) (hb : Below u.heap.size u u') : RB1 w u' := ⟨(hb.block _ h.lt).trans h.k, h.bw.trans (hb.mono h.bw.size)⟩
theorem RB1.nextB {w u u' : World} {B : Nat} (h : RB1 w u) (hb : Below B u u') (hB : w.heap.size < B) : RB1 w u' := ⟨(hb.block _ hB).trans h.k, h.bw.trans (hb.mono (by omega))⟩
theorem RB1.box {w u : World} (h : RB1 w u) : u.cell? ⟨w.heap.size, 0, none⟩ = some (.int .i64 0) ∧ u.cell? ⟨w.heap.size, 1, none⟩ = some (.slice none 0 0) ∧ u.frozen? ⟨w.heap.size, 0, none⟩ = false ∧ u.frozen? ⟨w.heap.size, 1, none⟩ = false :=
  ⟨by rw [bk_cell h.k]; rfl, by rw [bk_cell h.k]; rfl, bk_free h.k 0, bk_free h.k 1⟩
theorem RB1.tell {w u : World} (h : RB1 w u) (x : Int) (r : Value) : ((u.setCell ⟨w.heap.size, 0, none⟩ (.int .i64 x)).setCell ⟨w.heap.size, 1, none⟩ r).heap[w.heap.size]? = some (.cells #[.int .i64 x, r] 30 (0, 0)) ∧ Below w.heap.size w ((u.setCell ⟨w.heap.size, 0, none⟩ (.int .i64 x)).setCell ⟨w.heap.size, 1, none⟩ r) :=
  ⟨(bk_set (bk_set h.k 0 _) 1 _).trans rfl, (h.bw.setCell (Nat.le_refl _) _).setCell (Nat.le_refl _) _⟩
theorem rb2Q {u : World} {b : Nat} {x : Int} {s : Value} {T : TypeId} (h : u.heap[b]? = some (.cells #[.int .i64 x, s] T (0, 0))) : u.cell? ⟨b, 0, none⟩ = some (.int .i64 x) ∧ u.cell? ⟨b, 1, none⟩ = some s :=
  ⟨by rw [bk_cell h]; rfl, by rw [bk_cell h]; rfl⟩
theorem dv3 (v : ByteArray) : dv v 3 = 100 * (bt v 0 - 48) + 10 * (bt v 1 - 48) + (bt v 2 - 48) := by
  simp only [dv]
  omega
theorem wrap_small (k : IntKind) (hk : k = .i64 ∨ k = .u8) (x : Int) (h0 : 0 ≤ x) (h1 : x ≤ 99) : k.wrap x = x := by
  rcases hk with rfl | rfl <;> simp [IntKind.wrap, IntKind.bits, IntKind.signed] <;> omega
theorem wrap_mid (x : Int) (h0 : 0 ≤ x) (h1 : x ≤ 9999) : IntKind.i64.wrap x = x := by
  simp [IntKind.wrap, IntKind.bits, IntKind.signed]; omega
/-- A block of another type is not the row's. -/
theorem ne_of_type {w : World} {base N : Nat} {r : Value} {L : List (List Value)} {cs : Array Value} {T : TypeId} {fr : Nat × Nat} (o : GOwns 45 2 w base r L) (kN : w.heap[N]? = some (.cells cs T fr)) (hT : T ≠ 45) : ∀ k, r.ownBlock = some k → k ≠ N := by
  intro k hk e
  subst e
  obtain ⟨zs, ⟨_, h2⟩, _⟩ := o
  rcases h2 with ⟨rfl, _⟩ | ⟨g, cap, cur, rfl, _, hh, _⟩
  · cases hk
  · have : g = k := Option.some.inj hk
    subst this
    rw [kN] at hh
    have := Option.some.inj hh
    simp only [Obj.cells.injEq] at this
    exact hT this.2.1
/-- The response that was read, in its box. -/
def RBr (u0 wx : World) (st : Int) (D : List SField) (p : Value) : Prop :=
  ∃ (N : Nat) (r : Value), p = .pointer (some ⟨N, 0, none⟩) ∧ wx.heap[N]? = some (.cells #[.int .i64 st, r] 30 (0, 0)) ∧ GOwns 45 2 wx u0.heap.size r (SField.L D) ∧ Below u0.heap.size u0 wx
theorem RBr.of_set {u0 u : World} {st : Int} {D : List SField} {N : Nat} {r : Value} (hb : Below u0.heap.size u0 u) (kN : u.heap[N]? = some (.cells #[.int .i64 0, .slice none 0 0] 30)) (hlo : u0.heap.size ≤ N) (o : GOwns 45 2 u u0.heap.size r (SField.L D)) :
    RBr u0 ((u.setCell ⟨N, 0, none⟩ (.int .i64 st)).setCell ⟨N, 1, none⟩ r) st D (.pointer (some ⟨N, 0, none⟩)) := by
  have hN := ne_of_type o kN (by decide)
  have st' : ∀ {x : World} {i : Nat} {v : Value}, GOwns 45 2 x u0.heap.size r (SField.L D) → GOwns 45 2 (x.setCell ⟨N, i, none⟩ v) u0.heap.size r (SField.L D) := fun {x i v} h => GOwns.only (Only.setCell (w := x) ⟨N, i, none⟩ v) h (fun k hk e => hN k hk (by have := Option.some.inj e; simp only at this; omega))
  exact ⟨N, r, rfl, (bk_set (bk_set kN 0 _) 1 _).trans rfl, st' (st' o), (hb.setCell hlo _).setCell hlo _⟩
theorem RBr.of_new {u0 u : World} {st : Int} {D : List SField} {r : Value} (hb : Below u0.heap.size u0 u) (o : GOwns 45 2 u u0.heap.size r (SField.L D)) :
    RBr u0 (u.alloc (.cells #[.int .i64 st, r] 30)) st D (.pointer (some ⟨u.heap.size, 0, none⟩)) :=
  ⟨_, r, rfl, heap_alloc_new _ _, o.below ((Below.refl _ _).alloc (Nat.le_refl _) _), hb.trans (((Below.refl _ _).alloc (Nat.le_refl _) _).mono hb.size)⟩
set_option maxRecDepth 20000 in
set_option maxHeartbeats 8000000 in
theorem roS (v : Value) (base : Nat) (L : List SField) (w : World) (ow : GOwns 45 2 w base v (SField.L L)) (hR : L.length ≤ 1048576) (hf : fin L) :
    Calls Tryd.prog 15 #[v] w fun e w' => ∃ r, e = .returned (.tuple #[rV (roR L).st r, .int .i64 (roR L).code]) ∧ GOwns 45 2 w' w.heap.size r (SField.L (roR L).fs) ∧ Below w.heap.size w w' := by
  have h := ow.row
  have HW : Hid (RB1 w (w.alloc (.cells #[.int .i64 0, .slice none 0 0] 30))) := RB1.new w
  obtain ⟨y0, y1, fz0, fz1⟩ := HW.out.box
  have CH := headsS v L (w.alloc (.cells #[.int .i64 0, .slice none 0 0] 30)) (h.below HW.out.bw) hR hf
  unfold rV
  by_cases h64 : 64 < L.length
  · rw [show roR L = ⟨0, [], 4⟩ by unfold roR; rw [if_pos h64]]
    obtain ⟨ao, cp, rfl⟩ := frow_form h
    have h3 : (64 : Int) < (L.length : Int) := by omega
    obtain ⟨n, en⟩ : ∃ n, n = L.length := ⟨_, rfl⟩
    rw [← en] at h3 ⊢
    clear CH h ow hR hf h64 en
    simp only
    go_enter Tryd.func15, Tryd.ntmps15
    go_wp2
    try simp only [Exit.inBlock, Exit.then]
    refine bodyPost_ret (v := .tuple #[.agg #[.int .i64 0, .slice none 0 0], .int .i64 4]) ?_ rfl ?_
    · first
      | exact results_rtQ (ty := 30) rfl _ _ w.heap.size 30 _ (0, 0) _ _ rfl rfl (HW.out.tell 0 (.slice none 0 0)).1 Tryd.underlying30 rfl infoRespQ
      | exact results_rtQ (ty := 30) rfl _ _ w.heap.size 30 _ (0, 0) _ _ rfl rfl HW.out.k Tryd.underlying30 rfl infoRespQ
    · first
      | exact ⟨_, rfl, gown_nilQ _ _, (HW.out.tell 0 (.slice none 0 0)).2⟩
      | exact ⟨_, rfl, gown_nilQ _ _, HW.out.bw⟩
  have hR0 : roR L = if roC L = true then ⟨dv (L.getD 0 default).f1 3, L.drop 1, 0⟩ else ⟨0, [], 17⟩ := by unfold roR; rw [if_neg h64]
  have h3 : ¬ ((64 : Int) < (L.length : Int)) := by omega
  by_cases h1 : hdN L = 1
  · have h0 : 0 < L.length := by
      rcases Nat.eq_zero_or_pos L.length with q | q
      · have : L = [] := List.eq_nil_of_length_eq_zero q
        rw [this] at h1
        simp [hdN] at h1
      · exact q
    obtain ⟨b, off, cap, rfl, hb, hc⟩ := frow_at h h0
    have hw0 := hc 0 h0
    have C0 : (w.alloc (.cells #[.int .i64 0, .slice none 0 0] 30)).cell? ⟨b, off, none⟩ = some (.string (L.getD 0 default).f0) := (HW.out.bw.cell (p := ⟨b, off, none⟩) hb).trans (hw0 0 (by omega))
    have C1 : (w.alloc (.cells #[.int .i64 0, .slice none 0 0] 30)).cell? ⟨b, off + 1, none⟩ = some (.string (L.getD 0 default).f1) := (HW.out.bw.cell (p := ⟨b, off + 1, none⟩) hb).trans (hw0 1 (by omega))
    have hfc := (hf 0 h0).2
    have CW : ∀ u, _ := fun u => withinS (L.getD 0 default).f1 3 48 57 u hfc
    have hd : roC L = (((L.getD 0 default).f0 == stN) && spl (L.getD 0 default).f1 3 48 57 && decide ((L.getD 0 default).f1.size = 3) && rsOK (dv (L.getD 0 default).f1 3) (L.drop 1)) := by unfold roC; rw [h1]; simp
    rw [hd] at hR0
    rw [h1] at CH
    have RW : ∀ u, Below w.heap.size w u → GRow 2 u (.slice (some ⟨b, off + 2, none⟩) (L.length - 1) (cap - 1)) (SField.L (L.drop 1)) := fun u hu => by
      by_cases hl : 1 < L.length
      · refine Or.inr ⟨b, off + 2, cap - 1, by simp, Nat.lt_of_lt_of_le hb hu.size, fun j hj f hf2 => ?_⟩
        rw [List.length_map, List.length_drop] at hj
        have q := hc (j + 1) (by omega) f hf2
        rw [SField.at (L.drop 1) j (by rw [List.length_drop]; exact hj)]
        rw [show (L.drop 1).getD j default = L.getD (j + 1) default by simp [List.getD]]
        rw [← q, show off + 2 + (j * 2 + f) = off + ((j + 1) * 2 + f) by omega]
        exact hu.cell (p := ⟨b, off + ((j + 1) * 2 + f), none⟩) hb
      · exact Or.inl ⟨by rw [show L.drop 1 = [] from List.drop_eq_nil_of_le (by omega)]; rfl, some ⟨b, off + 2, none⟩, cap - 1, by rw [show L.length - 1 = 0 by omega]⟩
    have hfd : fin (L.drop 1) := fun j hj => by
      rw [List.length_drop] at hj
      have q := hf (j + 1) (by omega)
      rw [show (L.drop 1).getD j default = L.getD (j + 1) default by simp [List.getD]]
      exact q
    have CR : ∀ (st : Int) (r : Value) (u : World), GRow 2 u r (SField.L (L.drop 1)) → _ := fun st r u hr => rsS st r (L.drop 1) u hr (by rw [List.length_drop]; omega) hfd
    have hsp : spl (L.getD 0 default).f1 3 48 57 = true → (L.getD 0 default).f1.size = 3 → (48 ≤ bt (L.getD 0 default).f1 0 ∧ bt (L.getD 0 default).f1 0 ≤ 57) ∧ (48 ≤ bt (L.getD 0 default).f1 1 ∧ bt (L.getD 0 default).f1 1 ≤ 57) ∧ (48 ≤ bt (L.getD 0 default).f1 2 ∧ bt (L.getD 0 default).f1 2 ≤ 57) := fun q1 q2 => by
      unfold spl at q1
      simp only [Bool.and_eq_true, decide_eq_true_eq] at q1
      exact ⟨inR_at q1.2 0 (by omega), inR_at q1.2 1 (by omega), inR_at q1.2 2 (by omega)⟩
    have hdl : (L.drop 1).length ≤ 1048576 := by rw [List.length_drop]; omega
    obtain ⟨F, eF⟩ : ∃ F, F = L.getD 0 default := ⟨_, rfl⟩
    obtain ⟨D, eD⟩ : ∃ D, D = L.drop 1 := ⟨_, rfl⟩
    rw [← eF] at C0 C1 CW hR0 hsp hfc
    rw [← eD] at RW CR hR0 hdl
    obtain ⟨a, c⟩ := F
    simp only at C0 C1 CW hR0 hsp hfc
    obtain ⟨n, en⟩ : ∃ n, n = L.length := ⟨_, rfl⟩
    have hn1 : (1 : Int) ≤ (n : Int) := by omega
    have hn0 : 0 < n := by omega
    have hcapn : n ≤ cap := by
      rcases ow.cellsFQ.2 with ⟨q, _⟩ | ⟨g, cap', cur, q, _, _, q2, _⟩
      · cases q
      · cases q; omega
    rw [← en] at RW CH h3 hR ⊢
    have HS : Hid _ := And.intro CH (And.intro CW (And.intro RW (And.intro CR (And.intro hR0 (And.intro hsp hdl)))))
    clear CH CW RW CR hsp h ow hf hfd hd hw0 hc h64 eF eD en h1 hdl h0
    go_enter Tryd.func15, Tryd.ntmps15
    go_wp2_with fail
    go_at_call 27
    refine HS.out.1.mono ?_
    rintro e w1 ⟨rfl, rfl⟩
    cases hq : (a == stN) with
    | false =>
      have HF : Hid (roR L = ⟨0, [], 17⟩) := by show roR L = _; rw [hR0, hq]; rfl
      have r0 : (a != stN) = true := bne_beqQ hq
      have t0 : (a.toList == [58, 115, 116, 97, 116, 117, 115]) = false := tl_litQ a _ _ hq
      clear hR0 hq
      go_wp2
      try simp only [Exit.inBlock, Exit.then]
      rw [HF.out]
      refine bodyPost_ret (v := .tuple #[.agg #[.int .i64 0, .slice none 0 0], .int .i64 17]) ?_ rfl ?_
      · first
        | exact results_rtQ (ty := 30) rfl _ _ w.heap.size 30 _ (0, 0) _ _ rfl rfl (HW.out.tell 0 (.slice none 0 0)).1 Tryd.underlying30 rfl infoRespQ
        | exact results_rtQ (ty := 30) rfl _ _ w.heap.size 30 _ (0, 0) _ _ rfl rfl HW.out.k Tryd.underlying30 rfl infoRespQ
      · first
        | exact ⟨_, rfl, gown_nilQ _ _, (HW.out.tell 0 (.slice none 0 0)).2⟩
        | exact ⟨_, rfl, gown_nilQ _ _, HW.out.bw⟩
    | true =>
    have r0 : (a != stN) = false := bne_beqQ hq
    have t0 : (a.toList == [58, 115, 116, 97, 116, 117, 115]) = true := tl_litQ a _ _ hq
    rw [hq, Bool.true_and] at hR0
    clear hq
    go_wp2_with fail
    go_at_call 28
    refine (HS.out.2.1 _).mono ?_
    rintro e w2 ⟨rfl, rfl⟩
    cases hs : spl c 3 48 57 with
    | false =>
      have HF : Hid (roR L = ⟨0, [], 17⟩) := by show roR L = _; rw [hR0, hs]; rfl
      clear hR0 hs
      go_wp2
      try simp only [Exit.inBlock, Exit.then]
      rw [HF.out]
      refine bodyPost_ret (v := .tuple #[.agg #[.int .i64 0, .slice none 0 0], .int .i64 17]) ?_ rfl ?_
      · first
        | exact results_rtQ (ty := 30) rfl _ _ w.heap.size 30 _ (0, 0) _ _ rfl rfl (HW.out.tell 0 (.slice none 0 0)).1 Tryd.underlying30 rfl infoRespQ
        | exact results_rtQ (ty := 30) rfl _ _ w.heap.size 30 _ (0, 0) _ _ rfl rfl HW.out.k Tryd.underlying30 rfl infoRespQ
      · first
        | exact ⟨_, rfl, gown_nilQ _ _, (HW.out.tell 0 (.slice none 0 0)).2⟩
        | exact ⟨_, rfl, gown_nilQ _ _, HW.out.bw⟩
    | true =>
    rw [hs, Bool.true_and] at hR0
    by_cases h3n : ¬ c.size = 3
    · have HF : Hid (roR L = ⟨0, [], 17⟩) := by show roR L = _; rw [hR0, decide_eq_false h3n]; rfl
      have h3d : ((c.size : Int) != 3) = true := by simp; omega
      clear hR0 hs h3n
      go_wp2
      try simp only [Exit.inBlock, Exit.then]
      rw [HF.out]
      refine bodyPost_ret (v := .tuple #[.agg #[.int .i64 0, .slice none 0 0], .int .i64 17]) ?_ rfl ?_
      · first
        | exact results_rtQ (ty := 30) rfl _ _ w.heap.size 30 _ (0, 0) _ _ rfl rfl (HW.out.tell 0 (.slice none 0 0)).1 Tryd.underlying30 rfl infoRespQ
        | exact results_rtQ (ty := 30) rfl _ _ w.heap.size 30 _ (0, 0) _ _ rfl rfl HW.out.k Tryd.underlying30 rfl infoRespQ
      · first
        | exact ⟨_, rfl, gown_nilQ _ _, (HW.out.tell 0 (.slice none 0 0)).2⟩
        | exact ⟨_, rfl, gown_nilQ _ _, HW.out.bw⟩
    have h3c : c.size = 3 := by omega
    clear h3n
    have h3d : ((c.size : Int) != 3) = false := by simp; omega
    rw [decide_eq_true h3c, Bool.true_and] at hR0
    obtain ⟨⟨x00, x01⟩, ⟨x10, x11⟩, ⟨x20, x21⟩⟩ := HS.out.2.2.2.2.2.1 hs h3c
    have ix0 : ∀ u, (Instr.index 9 (.string c) (.int .i64 0)).run Tryd.prog u = .ok (.int .u8 (bt c 0)) u := fun u => ixC c 0 (by omega) u
    have ix1 : ∀ u, (Instr.index 9 (.string c) (.int .i64 1)).run Tryd.prog u = .ok (.int .u8 (bt c 1)) u := fun u => ixC c 1 (by omega) u
    have ix2 : ∀ u, (Instr.index 9 (.string c) (.int .i64 2)).run Tryd.prog u = .ok (.int .u8 (bt c 2)) u := fun u => ixC c 2 (by omega) u
    have hdv := dv3 c
    obtain ⟨x, ex⟩ : ∃ x, x = bt c 0 := ⟨_, rfl⟩
    obtain ⟨y, ey⟩ : ∃ y, y = bt c 1 := ⟨_, rfl⟩
    obtain ⟨z, ez⟩ : ∃ z, z = bt c 2 := ⟨_, rfl⟩
    rw [← ex] at ix0 hdv x00 x01
    rw [← ey] at ix1 hdv x10 x11
    rw [← ez] at ix2 hdv x20 x21
    rw [hdv] at hR0
    have u0 : IntKind.u8.wrap (x - 48) = x - 48 := wrap_small _ (Or.inr rfl) _ (by omega) (by omega)
    have u1 : IntKind.u8.wrap (y - 48) = y - 48 := wrap_small _ (Or.inr rfl) _ (by omega) (by omega)
    have u2 : IntKind.u8.wrap (z - 48) = z - 48 := wrap_small _ (Or.inr rfl) _ (by omega) (by omega)
    have v0 : IntKind.i64.wrap (x - 48) = x - 48 := wrap_mid _ (by omega) (by omega)
    have v1 : IntKind.i64.wrap (y - 48) = y - 48 := wrap_mid _ (by omega) (by omega)
    have v2 : IntKind.i64.wrap (z - 48) = z - 48 := wrap_mid _ (by omega) (by omega)
    have v3 : IntKind.i64.wrap (100 * (x - 48)) = 100 * (x - 48) := wrap_mid _ (by omega) (by omega)
    have v4 : IntKind.i64.wrap (10 * (y - 48)) = 10 * (y - 48) := wrap_mid _ (by omega) (by omega)
    have v5 : IntKind.i64.wrap (100 * (x - 48) + 10 * (y - 48)) = 100 * (x - 48) + 10 * (y - 48) := wrap_mid _ (by omega) (by omega)
    have v6 : IntKind.i64.wrap (100 * (x - 48) + 10 * (y - 48) + (z - 48)) = 100 * (x - 48) + 10 * (y - 48) + (z - 48) := wrap_mid _ (by omega) (by omega)
    have HR0 : Hid _ := hR0
    clear hR0 hdv ex ey ez hs h3c
    go_upto_region 6 with fail
    generalize w.alloc (.cells #[.int .i64 0, .slice none 0 0] 30) = w2 at *
    obtain ⟨XB, eXB⟩ : ∃ XB : Option Addr, (if cap = 1 then some (⟨b, off, none⟩ : Addr) else some ⟨b, off + 2, none⟩) = XB := ⟨_, rfl⟩
    have RW2 : ∀ u, Below w2.heap.size w2 u → GRow 2 u (.slice XB (n - 1) (cap - 1)) (SField.L D) := fun u hu => by
      have q := HS.out.2.2.1 u (HW.out.bw.trans (hu.mono HW.out.bw.size))
      rw [← eXB]
      by_cases hc1 : cap = 1
      · rw [if_pos hc1]
        obtain ⟨ao', cp', e⟩ := frow_form q
        simp only [Value.slice.injEq] at e
        have hD : D.length = 0 := by omega
        have hD2 : D = [] := List.eq_nil_of_length_eq_zero hD
        exact Or.inl ⟨by rw [hD2]; rfl, some ⟨b, off, none⟩, cap - 1, by rw [show n - 1 = 0 by omega]⟩
      · rw [if_neg hc1]
        exact q
    have bA : Below w2.heap.size w2 (w2.alloc (.cells #[] 45)).drew := ((Below.refl _ _).alloc (Nat.le_refl _) _).trans ((drew_belowQ _).mono (by simp))
    have bB : Below w2.heap.size w2 ((w2.alloc (.cells #[] 45)).alloc (.cells #[.int .i64 0, .slice none 0 0] 30)).drew := (((Below.refl _ _).alloc (Nat.le_refl _) _).alloc (by simp) _).trans ((drew_belowQ _).mono (by simp <;> omega))
    have bC : Below w2.heap.size w2 ((w2.alloc (.cells #[.int .i64 0, .slice none 0 0] 30)).alloc (.cells #[] 45)).drew := (((Below.refl _ _).alloc (Nat.le_refl _) _).alloc (by simp) _).trans ((drew_belowQ _).mono (by simp <;> omega))
    have oA := (own_nil1 w2).below (drew_belowQ _)
    have oB := ((own_nil1 w2).below ((Below.refl _ _).alloc (Nat.le_refl _) (.cells #[.int .i64 0, .slice none 0 0] 30))).below (drew_belowQ _)
    have oC0 := (own_nil1 (w2.alloc (.cells #[.int .i64 0, .slice none 0 0] 30))).below (drew_belowQ _)
    rw [show (w2.alloc (.cells #[.int .i64 0, .slice none 0 0] 30)).heap.size = w2.heap.size + 1 by simp] at oC0
    have oC := oC0.mono (base' := w2.heap.size) (by omega)
    have kB : ((w2.alloc (.cells #[] 45)).alloc (.cells #[.int .i64 0, .slice none 0 0] 30)).drew.heap[w2.heap.size + 1]? = some (.cells #[.int .i64 0, .slice none 0 0] 30) := by
      have q := heap_alloc_new (w2.alloc (.cells #[] 45)) (.cells #[.int .i64 0, .slice none 0 0] 30)
      rw [show (w2.alloc (.cells #[] 45)).heap.size = w2.heap.size + 1 by simp] at q
      exact q
    have kC : ((w2.alloc (.cells #[.int .i64 0, .slice none 0 0] 30)).alloc (.cells #[] 45)).drew.heap[w2.heap.size]? = some (.cells #[.int .i64 0, .slice none 0 0] 30) := (((Below.refl (w2.alloc (.cells #[.int .i64 0, .slice none 0 0] 30)).heap.size (w2.alloc (.cells #[.int .i64 0, .slice none 0 0] 30))).alloc (Nat.le_refl _) (.cells #[] 45)).block _ (by simp)).trans (heap_alloc_new w2 (.cells #[.int .i64 0, .slice none 0 0] 30))
    have sA : w2.heap.size ≤ (w2.alloc (.cells #[] 45)).drew.heap.size := bA.size
    have sB : w2.heap.size ≤ ((w2.alloc (.cells #[] 45)).alloc (.cells #[.int .i64 0, .slice none 0 0] 30)).drew.heap.size := bB.size
    have sC : w2.heap.size ≤ ((w2.alloc (.cells #[.int .i64 0, .slice none 0 0] 30)).alloc (.cells #[] 45)).drew.heap.size := bC.size
    have zB : w2.heap.size + 1 < ((w2.alloc (.cells #[] 45)).alloc (.cells #[.int .i64 0, .slice none 0 0] 30)).drew.heap.size := by show _ < ((w2.alloc (.cells #[] 45)).alloc (.cells #[.int .i64 0, .slice none 0 0] 30)).heap.size; simp
    have zC : w2.heap.size < ((w2.alloc (.cells #[.int .i64 0, .slice none 0 0] 30)).alloc (.cells #[] 45)).drew.heap.size := by show _ < ((w2.alloc (.cells #[.int .i64 0, .slice none 0 0] 30)).alloc (.cells #[] 45)).heap.size; simp; omega
    have KK : Hid _ := And.intro (And.intro bA (And.intro oA (And.intro (RW2 _ bA) sA))) (And.intro (And.intro bB (And.intro oB (And.intro (RW2 _ bB) (And.intro sB (And.intro kB zB))))) (And.intro bC (And.intro oC (And.intro (RW2 _ bC) (And.intro sC (And.intro kC zC))))))
    clear bA bB bC oA oB oC0 oC kB kC sA sB sC zB zC RW2
    go_cut [5] from 41 to 61 (fun p wx => RBr w2 wx (100 * (x - 48) + 10 * (y - 48) + (z - 48)) D p)
    case first =>
      refine wp_region_any (by kernel_rfl) ?_
      refine wpAny_take (i := 0) (v := .string c) rfl (by kernel_rfl) (by kernel_rfl) (by kernel_rfl) (fun _ _ _ h => h) (Or.inl ⟨by rfl, fun u => by go_simp⟩) ?_
      refine wpAny_take (i := 1) (v := .int .u8 x) rfl (by kernel_rfl) (by kernel_rfl) (by kernel_rfl) (fun _ _ _ h => h) (Or.inl ⟨by rfl, fun u => by go_simp⟩) ?_
      refine wpAny_take (i := 2) (v := .int .u8 (x - 48)) rfl (by kernel_rfl) (by kernel_rfl) (by kernel_rfl) (fun _ _ _ h => h) (Or.inl ⟨by rfl, fun u => by go_simp⟩) ?_
      refine wpAny_take (i := 3) (v := .int .i64 (x - 48)) rfl (by kernel_rfl) (by kernel_rfl) (by kernel_rfl) (fun _ _ _ h => h) (Or.inl ⟨by rfl, fun u => by go_simp⟩) ?_
      refine wpAny_take (i := 4) (v := .int .i64 (100 * (x - 48))) rfl (by kernel_rfl) (by kernel_rfl) (by kernel_rfl) (fun _ _ _ h => h) (Or.inl ⟨by rfl, fun u => by go_simp⟩) ?_
      refine wpAny_take (i := 5) (v := .string c) rfl (by kernel_rfl) (by kernel_rfl) (by kernel_rfl) (fun _ _ _ h => h) (Or.inl ⟨by rfl, fun u => by go_simp⟩) ?_
      refine wpAny_take (i := 6) (v := .int .u8 y) rfl (by kernel_rfl) (by kernel_rfl) (by kernel_rfl) (fun _ _ _ h => h) (Or.inl ⟨by rfl, fun u => by go_simp⟩) ?_
      refine wpAny_take (i := 7) (v := .int .u8 (y - 48)) rfl (by kernel_rfl) (by kernel_rfl) (by kernel_rfl) (fun _ _ _ h => h) (Or.inl ⟨by rfl, fun u => by go_simp⟩) ?_
      refine wpAny_take (i := 8) (v := .int .i64 (y - 48)) rfl (by kernel_rfl) (by kernel_rfl) (by kernel_rfl) (fun _ _ _ h => h) (Or.inl ⟨by rfl, fun u => by go_simp⟩) ?_
      refine wpAny_take (i := 9) (v := .int .i64 (10 * (y - 48))) rfl (by kernel_rfl) (by kernel_rfl) (by kernel_rfl) (fun _ _ _ h => h) (Or.inl ⟨by rfl, fun u => by go_simp⟩) ?_
      refine wpAny_take (i := 10) (v := .int .i64 (100 * (x - 48) + 10 * (y - 48))) rfl (by kernel_rfl) (by kernel_rfl) (by kernel_rfl) (fun _ _ _ h => h) (Or.inl ⟨by rfl, fun u => by go_simp⟩) ?_
      refine wpAny_take (i := 11) (v := .string c) rfl (by kernel_rfl) (by kernel_rfl) (by kernel_rfl) (fun _ _ _ h => h) (Or.inl ⟨by rfl, fun u => by go_simp⟩) ?_
      refine wpAny_take (i := 12) (v := .int .u8 z) rfl (by kernel_rfl) (by kernel_rfl) (by kernel_rfl) (fun _ _ _ h => h) (Or.inl ⟨by rfl, fun u => by go_simp⟩) ?_
      refine wpAny_take (i := 13) (v := .int .u8 (z - 48)) rfl (by kernel_rfl) (by kernel_rfl) (by kernel_rfl) (fun _ _ _ h => h) (Or.inl ⟨by rfl, fun u => by go_simp⟩) ?_
      refine wpAny_take (i := 14) (v := .int .i64 (z - 48)) rfl (by kernel_rfl) (by kernel_rfl) (by kernel_rfl) (fun _ _ _ h => h) (Or.inl ⟨by rfl, fun u => by go_simp⟩) ?_
      refine wpAny_take (i := 15) (v := .int .i64 (100 * (x - 48) + 10 * (y - 48) + (z - 48))) rfl (by kernel_rfl) (by kernel_rfl) (by kernel_rfl) (fun _ _ _ h => h) (Or.inl ⟨by rfl, fun u => by go_simp⟩) ?_
      refine wpAny_take (i := 17) (v := .slice (some ⟨b, off, none⟩) n cap) rfl (by kernel_rfl) (by kernel_rfl) (by kernel_rfl) (fun _ _ _ h => h) (Or.inl ⟨by rfl, fun u => by go_simp⟩) ?_
      refine wpAny_take (i := 18) (v := .slice XB (n - 1) (cap - 1)) rfl (by kernel_rfl) (by kernel_rfl) (by kernel_rfl) (fun _ _ _ h => h) (Or.inl ⟨by rfl, fun u => by go_simp⟩) ?_
      refine wpAny_ready (rs := [16, 21]) (by kernel_rfl) (by simp) ?_
      refine AllReady.cons rfl (fun K hK => ?_) (AllReady.cons rfl (fun K hK => ?_) AllReady.nil)
      · go_simp
        refine hK _ _ ?_
        clear hK K
        refine wpAny_ready (rs := [19, 21]) (by kernel_rfl) (by simp) ?_
        refine AllReady.cons rfl (fun K hK => ?_) (AllReady.cons rfl (fun K hK => ?_) AllReady.nil)
        · skip
          refine step_append_fieldsQ rfl _ _ 26 Tryd.underlying26 rfl w2.heap.size (.slice (some ⟨w2.heap.size, 0, none⟩) 0 0) [] rfl KK.out.1.2.1 (.slice XB (n - 1) (cap - 1)) D rfl KK.out.1.2.2.1 (by have := HS.out.2.2.2.2.2.2; simp; omega) KK.out.1.2.2.2 ?_
          intro v5 w5 o5 g5
          have A5 : Below w2.heap.size w2 w5 := (KK.out.1.1).grown g5 KK.out.1.2.2.2 (fun q e => by have q2 : w2.heap.size = q := Option.some.inj e; omega)
          have o6 : GOwns 45 2 w5 w2.heap.size v5 (SField.L D) := o5
          obtain ⟨va, vc, ev⟩ := frow_form o6.row
          obtain ⟨m5, em5⟩ : ∃ m5, m5 = D.length := ⟨_, rfl⟩
          rw [← em5] at ev
          clear em5 o5 g5
          subst ev
          have H5 : Hid _ := And.intro A5 o6
          clear A5 o6
          refine hK _ _ ?_
          clear hK K
          refine wpAny_take (i := 20) (v := .agg #[.int .i64 (100 * (x - 48) + 10 * (y - 48) + (z - 48)), .slice va m5 vc]) rfl (by kernel_rfl) (by kernel_rfl) (by kernel_rfl) (fun _ _ _ h => h) (Or.inl ⟨by rfl, fun u => by go_simp⟩) ?_
          refine wpAny_ready (rs := [21]) (by kernel_rfl) (by simp) ?_
          refine AllReady.cons rfl (fun K hK => ?_) AllReady.nil
          go_simp
          refine hK _ _ ?_
          clear hK K
          refine wpAny_ready (rs := [22]) (by kernel_rfl) (by simp) ?_
          refine AllReady.cons rfl (fun K hK => ?_) AllReady.nil
          go_simp
          refine hK _ _ ?_
          clear hK K
          refine wpAny_done (by kernel_rfl) ?_ _
          go_wp2_with fail
          go_meet
          exact RBr.of_new H5.out.1 H5.out.2
        · go_simp
          refine hK _ _ ?_
          clear hK K
          refine wpAny_ready (rs := [19]) (by kernel_rfl) (by simp) ?_
          refine AllReady.cons rfl (fun K hK => ?_) AllReady.nil
          refine step_append_fieldsQ rfl _ _ 26 Tryd.underlying26 rfl w2.heap.size (.slice (some ⟨w2.heap.size, 0, none⟩) 0 0) [] rfl KK.out.2.1.2.1 (.slice XB (n - 1) (cap - 1)) D rfl KK.out.2.1.2.2.1 (by have := HS.out.2.2.2.2.2.2; simp; omega) KK.out.2.1.2.2.2.1 ?_
          intro v5 w5 o5 g5
          have A5 : Below w2.heap.size w2 w5 := (KK.out.2.1.1).grown g5 KK.out.2.1.2.2.2.1 (fun q e => by have q2 : w2.heap.size = q := Option.some.inj e; omega)
          have HN : Hid _ := And.intro ((g5.block (w2.heap.size + 1) KK.out.2.1.2.2.2.2.2 (by simp [Value.ownBlock])).trans KK.out.2.1.2.2.2.2.1) (Nat.le_succ w2.heap.size)
          obtain ⟨m0, m1⟩ := rb2Q HN.out.1
          have i0 := bk_free HN.out.1 0
          have i1 := bk_free HN.out.1 1
          have o6 : GOwns 45 2 w5 w2.heap.size v5 (SField.L D) := o5
          obtain ⟨va, vc, ev⟩ := frow_form o6.row
          obtain ⟨m5, em5⟩ : ∃ m5, m5 = D.length := ⟨_, rfl⟩
          rw [← em5] at ev
          clear em5 o5 g5
          subst ev
          have H5 : Hid _ := And.intro A5 o6
          clear A5 o6
          refine hK _ _ ?_
          clear hK K
          refine wpAny_take (i := 20) (v := .agg #[.int .i64 (100 * (x - 48) + 10 * (y - 48) + (z - 48)), .slice va m5 vc]) rfl (by kernel_rfl) (by kernel_rfl) (by kernel_rfl) (fun _ _ _ h => h) (Or.inl ⟨by rfl, fun u => by go_simp⟩) ?_
          refine wpAny_ready (rs := [22]) (by kernel_rfl) (by simp) ?_
          refine AllReady.cons rfl (fun K hK => ?_) AllReady.nil
          go_simp
          refine hK _ _ ?_
          clear hK K
          refine wpAny_done (by kernel_rfl) ?_ _
          go_wp2_with fail
          go_meet
          exact RBr.of_set H5.out.1 HN.out.1 HN.out.2 H5.out.2
      · go_simp
        refine hK _ _ ?_
        clear hK K
        refine wpAny_ready (rs := [16]) (by kernel_rfl) (by simp) ?_
        refine AllReady.cons rfl (fun K hK => ?_) AllReady.nil
        go_simp
        refine hK _ _ ?_
        clear hK K
        refine wpAny_ready (rs := [19]) (by kernel_rfl) (by simp) ?_
        refine AllReady.cons rfl (fun K hK => ?_) AllReady.nil
        refine step_append_fieldsQ rfl _ _ 26 Tryd.underlying26 rfl w2.heap.size (.slice (some ⟨w2.heap.size + 1, 0, none⟩) 0 0) [] rfl KK.out.2.2.2.1 (.slice XB (n - 1) (cap - 1)) D rfl KK.out.2.2.2.2.1 (by have := HS.out.2.2.2.2.2.2; simp; omega) KK.out.2.2.2.2.2.1 ?_
        intro v5 w5 o5 g5
        have A5 : Below w2.heap.size w2 w5 := (KK.out.2.2.1).grown g5 KK.out.2.2.2.2.2.1 (fun q e => by have q2 : w2.heap.size + 1 = q := Option.some.inj e; omega)
        have HN : Hid _ := And.intro ((g5.block w2.heap.size KK.out.2.2.2.2.2.2.2 (by simp [Value.ownBlock])).trans KK.out.2.2.2.2.2.2.1) (Nat.le_refl w2.heap.size)
        obtain ⟨m0, m1⟩ := rb2Q HN.out.1
        have i0 := bk_free HN.out.1 0
        have i1 := bk_free HN.out.1 1
        have o6 : GOwns 45 2 w5 w2.heap.size v5 (SField.L D) := o5
        obtain ⟨va, vc, ev⟩ := frow_form o6.row
        obtain ⟨m5, em5⟩ : ∃ m5, m5 = D.length := ⟨_, rfl⟩
        rw [← em5] at ev
        clear em5 o5 g5
        subst ev
        have H5 : Hid _ := And.intro A5 o6
        clear A5 o6
        refine hK _ _ ?_
        clear hK K
        refine wpAny_take (i := 20) (v := .agg #[.int .i64 (100 * (x - 48) + 10 * (y - 48) + (z - 48)), .slice va m5 vc]) rfl (by kernel_rfl) (by kernel_rfl) (by kernel_rfl) (fun _ _ _ h => h) (Or.inl ⟨by rfl, fun u => by go_simp⟩) ?_
        refine wpAny_ready (rs := [22]) (by kernel_rfl) (by simp) ?_
        refine AllReady.cons rfl (fun K hK => ?_) AllReady.nil
        go_simp
        refine hK _ _ ?_
        clear hK K
        refine wpAny_done (by kernel_rfl) ?_ _
        go_wp2_with fail
        go_meet
        exact RBr.of_set H5.out.1 HN.out.1 HN.out.2 H5.out.2
    case rest =>
    obtain ⟨N, r, rfl, kN, oN, bN⟩ := hcut
    rename World => wx
    obtain ⟨ra, rc, er⟩ := frow_form oN.row
    obtain ⟨m, em⟩ : ∃ m, m = D.length := ⟨_, rfl⟩
    rw [← em] at er
    subst er
    obtain ⟨d0, d1⟩ := rb2Q kN
    have HX : Hid _ := And.intro kN (And.intro oN (And.intro bN em))
    clear kN oN bN em KK
    go_wp2_with fail
    go_at_call 19
    refine (HS.out.2.2.2.1 _ _ _ HX.out.2.1.row).mono ?_
    rintro e w6 ⟨rfl, b6⟩
    have W6 : RB1 w w6 := (HW.out.nextB HX.out.2.2.1 (HW.out.lt)).next b6
    obtain ⟨e0, e1⟩ := rb2Q ((b6.block _ (Array.getElem?_eq_some_iff.1 HX.out.1).1).trans HX.out.1)
    obtain ⟨q0, q1, q2, q3⟩ := W6.box
    have HV : Hid _ := W6
    have HO : Hid _ := HX.out.2.1.below b6
    clear W6 b6 d0 d1
    cases hK : rsOK (100 * (x - 48) + 10 * (y - 48) + (z - 48)) D with
    | false =>
      have HF : Hid (roR L = ⟨0, [], 17⟩) := by show roR L = _; rw [HR0.out, hK]; rfl
      clear hK
      go_wp2
      try simp only [Exit.inBlock, Exit.then]
      rw [HF.out]
      refine bodyPost_ret (v := .tuple #[.agg #[.int .i64 0, .slice none 0 0], .int .i64 17]) ?_ rfl ?_
      · exact results_rtQ (ty := 30) rfl _ _ w.heap.size 30 _ (0, 0) _ _ rfl rfl (HV.out.tell 0 (.slice none 0 0)).1 Tryd.underlying30 rfl infoRespQ
      · exact ⟨_, rfl, gown_nilQ _ _, (HV.out.tell 0 (.slice none 0 0)).2⟩
    | true =>
      have HF : Hid (roR L = ⟨100 * (x - 48) + 10 * (y - 48) + (z - 48), D, 0⟩) := by show roR L = _; rw [HR0.out, hK]; rfl
      clear hK
      go_wp2
      try simp only [Exit.inBlock, Exit.then]
      rw [HF.out]
      refine bodyPost_ret (v := .tuple #[.agg #[.int .i64 (100 * (x - 48) + 10 * (y - 48) + (z - 48)), .slice ra m rc], .int .i64 0]) ?_ rfl ?_
      · exact results_rtQ (ty := 30) rfl _ _ w.heap.size 30 _ (0, 0) _ _ rfl rfl (HV.out.tell _ (.slice ra m rc)).1 Tryd.underlying30 rfl infoRespQ
      · exact ⟨_, rfl, (gown_setQ (gown_setQ HO.out (g := w.heap.size) (HW.out.lt)) (g := w.heap.size) (HW.out.lt)).mono (Nat.le_of_lt HW.out.lt), (HV.out.tell _ (.slice ra m rc)).2⟩
  · have HF : Hid (roR L = ⟨0, [], 17⟩) := by show roR L = _; rw [hR0]; unfold roC; rw [decide_eq_false h1]; rfl
    have hne : ((hdN L : Int) != 1) = true := by simp; omega
    obtain ⟨ao, cp, rfl⟩ := frow_form h
    obtain ⟨n, en⟩ : ∃ n, n = L.length := ⟨_, rfl⟩
    obtain ⟨N, eN⟩ : ∃ N, N = hdN L := ⟨_, rfl⟩
    rw [← en] at CH h3 ⊢
    rw [← eN] at CH hne
    have HS : Hid _ := And.intro CH True.intro
    clear CH h ow hR hf h64 hR0 h1 en eN
    go_enter Tryd.func15, Tryd.ntmps15
    go_wp2_with fail
    go_at_call 27
    refine HS.out.1.mono ?_
    rintro e w1 ⟨rfl, rfl⟩
    go_wp2
    try simp only [Exit.inBlock, Exit.then]
    rw [HF.out]
    refine bodyPost_ret (v := .tuple #[.agg #[.int .i64 0, .slice none 0 0], .int .i64 17]) ?_ rfl ?_
    · first
      | exact results_rtQ (ty := 30) rfl _ _ w.heap.size 30 _ (0, 0) _ _ rfl rfl (HW.out.tell 0 (.slice none 0 0)).1 Tryd.underlying30 rfl infoRespQ
      | exact results_rtQ (ty := 30) rfl _ _ w.heap.size 30 _ (0, 0) _ _ rfl rfl HW.out.k Tryd.underlying30 rfl infoRespQ
    · first
      | exact ⟨_, rfl, gown_nilQ _ _, (HW.out.tell 0 (.slice none 0 0)).2⟩
      | exact ⟨_, rfl, gown_nilQ _ _, HW.out.bw⟩
end Go.Proofs.YtdhkcejfcmobcaaDoor
