import Derived.Test.YtpbkigmcbgbfgaaDoorRkV
import Derived.Test.YtpbkigmcbgbfgaaDoorPtA
import Derived.Deep.QuietTactic
namespace Go.Proofs.YtpbkigmcbgbfgaaDoor
open Go.RowKit Go.Shelf
set_option linter.unusedVariables false
attribute [local go_sem] Oper.semAt_some

theorem al_new (w : World) (o : Obj) : (w.alloc o).heap[w.heap.size]? = some o := heap_alloc_new w o
theorem al_at {w : World} {o : Obj} {b : Nat} (h : w.heap.size = b) : (w.alloc o).heap[b]? = some o := by rw [← h]; exact heap_alloc_new w o
theorem al_old {w : World} {b : Nat} {o : Obj} (h : w.heap[b]? = some o) (o2 : Obj) : (w.alloc o2).heap[b]? = some o :=
  (Below.heap_alloc w o2 b (Array.getElem?_eq_some_iff.1 h).1).trans h
/-- An outermost range over a function: the record is laid, the iterator is called. -/
theorem range_outer {P : Program} {g : Operand} {ps : Array Tmp} {assign body : Code} {Q : Exit → Act → World → Prop} {a : Act} {w : World} (gf : Nat) (lb : Array Value) (hg : a.eval g = .func (.func gf) #[] lb) (eg : ∀ args w, (callFunc gf args).run P w = .ok (.enter gf args) w)
    (h : ∀ fn, CallsIn Fence.wide 3 P gf (#[.func (.yield (w.heap.size + 1)) #[] #[]] ++ lb) ((w.alloc (.deferred (some []))).alloc (.loop { state := .ready, pending := none, fn, tmps := a.tmps, params := ps, assign, body, defers := w.heap.size }))
      (rangePost Fence.wide 4 P (w.heap.size + 1) Q { a with defers := [{ target := .collected w.heap.size, args := #[] }] ++ a.defers })) :
    (Code.rangeFunc g ps assign body).wpIn Fence.wide 4 P Q a w := by
  refine wpIn_rangeFunc (fun fn _ => ⟨w.heap.size + 1, [{ target := .collected w.heap.size, args := #[] }], (w.alloc (.deferred (some []))).alloc (.loop { state := .ready, pending := none, fn, tmps := a.tmps, params := ps, assign, body, defers := w.heap.size }), { target := .fn (.func gf) lb, args := #[.func (.yield (w.heap.size + 1)) #[] #[]] }, ((w.alloc (.deferred (some []))).alloc (.loop { state := .ready, pending := none, fn, tmps := a.tmps, params := ps, assign, body, defers := w.heap.size })), gf, _, _, run_enterLoop_outer _ _ _ _ _, ?_, fun _ _ => trivial, ?_, fun h => by omega, h fn⟩)
  · simp only [resolve, hg]
    simp [go_sem]
  · simp [invoke, go_sem, eg]
theorem put_below {B : Nat} {w W : World} (h : Below B w W) (k : Nat) (o : Obj) (hk : B ≤ k) : Below B w (W.putObj k o) :=
  ⟨h.os, h.tape, h.output, by have := h.size; simpa [World.putObj] using this, fun j hj => (World.putObj_heap_other (by omega)).trans (h.block j hj)⟩
theorem PA.begin {P : Program} {w W : World} {rc : Loop} {u : Int × Bool} (h : PA w W rc u) (hs : rc.state = .ready) :
    ∃ W2, (Instr.beginRound (w.heap.size + 6)).run P W = .ok () W2 ∧ PA w W2 { rc with state := .busy } u ∧ ∀ m, PB w W m → PB w W2 m :=
  ⟨_, run_beginRound h.ll hs, ⟨(World.putObj_heap_other (by omega)).trans h.cu, (World.putObj_heap_other (by omega)).trans h.ct, (World.putObj_heap_other (by omega)).trans h.dd, World.putObj_heap_same (Array.getElem?_eq_some_iff.1 h.ll).1, put_below h.bw _ _ (by omega)⟩,
    fun m k => ⟨(World.putObj_heap_other (by omega)).trans k.cs, (World.putObj_heap_other (by omega)).trans k.cp, (World.putObj_heap_other (by omega)).trans k.cz⟩⟩
theorem PA.endR {P : Program} {w W : World} {rc : Loop} {u : Int × Bool} (h : PA w W { rc with state := .busy } u) (hs : rc.state = .ready) (hp : rc.pending = none) :
    ∃ W2, (Instr.endRound (w.heap.size + 6) none).run P W = .ok (.bool true) W2 ∧ PA w W2 rc u ∧ ∀ m, PB w W m → PB w W2 m := by
  have e : ({ ({ rc with state := .busy } : Loop) with state := if (none : Option Code).isNone then .ready else .done, pending := none } : Loop) = rc := by cases rc; simp only at hs hp; subst hs hp; rfl
  refine ⟨_, run_endRound none h.ll, ⟨(World.putObj_heap_other (by omega)).trans h.cu, (World.putObj_heap_other (by omega)).trans h.ct, (World.putObj_heap_other (by omega)).trans h.dd, ?_, put_below h.bw _ _ (by omega)⟩,
    fun m k => ⟨(World.putObj_heap_other (by omega)).trans k.cs, (World.putObj_heap_other (by omega)).trans k.cp, (World.putObj_heap_other (by omega)).trans k.cz⟩⟩
  rw [e]
  exact World.putObj_heap_same (Array.getElem?_eq_some_iff.1 h.ll).1
theorem PA.below {w W W' : World} {rc : Loop} {u : Int × Bool} (h : PA w W rc u) (hb : Below W.heap.size W W') : PA w W' rc u :=
  ⟨(hb.block _ (Array.getElem?_eq_some_iff.1 h.cu).1).trans h.cu, (hb.block _ (Array.getElem?_eq_some_iff.1 h.ct).1).trans h.ct, (hb.block _ (Array.getElem?_eq_some_iff.1 h.dd).1).trans h.dd, (hb.block _ (Array.getElem?_eq_some_iff.1 h.ll).1).trans h.ll, h.bw.trans (hb.mono h.bw.size)⟩
theorem PB.below {w W W' : World} {m : List UInt8} (h : PB w W m) (hb : Below W.heap.size W W') : PB w W' m :=
  ⟨(hb.block _ (Array.getElem?_eq_some_iff.1 h.cs).1).trans h.cs, (hb.block _ (Array.getElem?_eq_some_iff.1 h.cp).1).trans h.cp, (hb.block _ (Array.getElem?_eq_some_iff.1 h.cz).1).trans h.cz⟩
theorem PA.setU {w W : World} {rc : Loop} {u : Int × Bool} (h : PA w W rc u) (x : Int) : PA w (W.setCell ⟨w.heap.size, 0, none⟩ (.int .i64 x)) rc (x, u.2) :=
  ⟨bk_set h.cu 0 _, (bk_other (by omega) 0 _).trans h.ct, (bk_other (by omega) 0 _).trans h.dd, (bk_other (by omega) 0 _).trans h.ll, h.bw.setCell (p := ⟨w.heap.size, 0, none⟩) (Nat.le_refl _) _⟩
theorem PA.setT {w W : World} {rc : Loop} {u : Int × Bool} (h : PA w W rc u) (x : Bool) : PA w (W.setCell ⟨w.heap.size + 1, 0, none⟩ (.bool x)) rc (u.1, x) :=
  ⟨(bk_other (by omega) 0 _).trans h.cu, bk_set h.ct 0 _, (bk_other (by omega) 0 _).trans h.dd, (bk_other (by omega) 0 _).trans h.ll, h.bw.setCell (p := ⟨w.heap.size + 1, 0, none⟩) (by show _ ≤ w.heap.size + 1; omega) _⟩
theorem PB.setN {w W : World} {m : List UInt8} (h : PB w W m) (k : Nat) (v : Value) (hk : k < w.heap.size + 2) : PB w (W.setCell ⟨k, 0, none⟩ v) m :=
  ⟨(bk_other (by omega) 0 _).trans h.cs, (bk_other (by omega) 0 _).trans h.cp, (bk_other (by omega) 0 _).trans h.cz⟩
theorem pt_bl (j : Nat) (hj : j < 8) : ptV (j : Int) false = bl [117, 61, 48 + j.toUInt8] := by
  obtain rfl | rfl | rfl | rfl | rfl | rfl | rfl | rfl : j = 0 ∨ j = 1 ∨ j = 2 ∨ j = 3 ∨ j = 4 ∨ j = 5 ∨ j = 6 ∨ j = 7 := by omega
  all_goals rfl
theorem bl_tl (a b : List UInt8) : ((bl a).toList == (bl b).toList) = decide (a = b) := by
  rw [ByteArray.toList_eq, ByteArray.toList_eq, bl_data, bl_data]
  by_cases h : a = b
  · subst h; simp
  · rw [decide_eq_false h]; simpa using h
theorem stp_dig (u : Int × Bool) (p : List UInt8) (j : Nat) (hj : j < 8) (h : tL (tR p) = [117, 61, 48 + j.toUInt8]) : stp u p = ((j : Int), u.2) := by
  unfold stp
  rw [h]
  obtain rfl | rfl | rfl | rfl | rfl | rfl | rfl | rfl : j = 0 ∨ j = 1 ∨ j = 2 ∨ j = 3 ∨ j = 4 ∨ j = 5 ∨ j = 6 ∨ j = 7 := by omega
  all_goals rfl
theorem ug_no (q : List UInt8) (h : ∀ j, j < 8 → q ≠ [117, 61, 48 + j.toUInt8]) : ug q = none := by
  match q with
  | [] => rfl
  | [_] => rfl
  | [_, _] => rfl
  | [a, b, c] =>
    simp only [ug]
    split
    · rename_i hc
      obtain ⟨rfl, rfl, h1, h2⟩ := hc
      exfalso
      refine h (c.toNat - 48) (by omega) ?_
      have : c = 48 + (c.toNat - 48).toUInt8 := by
        apply UInt8.toNat_inj.1
        rw [UInt8.toNat_add]
        simp
        omega
      rw [← this]
    · rfl
  | _ :: _ :: _ :: _ :: _ => rfl
set_option maxRecDepth 20000 in
set_option maxHeartbeats 4000000 in
theorem readP (l : List UInt8) (w : World) (hl : l.length ≤ 1024) :
    Calls Tryd.prog 6 #[.string (bl l)] w fun e w' => e = .returned (.tuple #[.int .i64 (rpV l).1, .bool (rpV l).2]) ∧ Below w.heap.size w w' := by
  have hz : (bl l).size = l.length := bl_size l
  have hl' : (l.length : Int) ≤ 1024 := by omega
  have C := fun u => seqI l u
  obtain ⟨S, eS⟩ : ∃ S, S = bl l := ⟨_, rfl⟩
  rw [← eS] at hz C ⊢
  obtain ⟨V, eV⟩ : ∃ V, V = rpV l := ⟨_, rfl⟩
  rw [← eV]
  have HV : Hid _ := And.intro eV True.intro
  clear eV
  have H : Hid _ := And.intro C eS
  clear C eS
  refine (callsIn_wide (n := 4)).1 ?_
  refine callsIn_of_wp_marks Tryd.func6 rfl trivial ?_ rfl
  simp only [Tryd.ntmps6, List.size_toArray, List.length_cons, List.length_nil, Nat.reduceAdd, Nat.reduceSub, Array.replicate_succ, Array.replicate_zero, List.push_toArray, List.append_toArray, List.nil_append, List.cons_append]
  refine wpIn_wide.2 ?_
  go_wp2_with fail
  go_step3
  go_wp2_with fail
  go_step3
  go_wp2_with (go_at_call 13; refine (H.out.1 _).mono ?_; rintro e w1 ⟨rfl, hw⟩; subst hw)
  refine (wpIn_wide (n := 4)).1 ?_
  have B5 : Below w.heap.size w (((((w.alloc (.cells #[.int .i64 3] 3)).alloc (.cells #[.bool false] 4)).alloc (.cells #[.string S] 9)).alloc (.cells #[.string ⟨#[44]⟩] 9)).alloc (.cells #[.int .i64 0] 3)) := ((((((Below.refl _ _).alloc (Nat.le_refl _) _).alloc (by simp) _).alloc (by simp; omega) _).alloc (by simp; omega) _).alloc (by simp; omega) _)
  have hz5 : (((((w.alloc (.cells #[.int .i64 3] 3)).alloc (.cells #[.bool false] 4)).alloc (.cells #[.string S] 9)).alloc (.cells #[.string ⟨#[44]⟩] 9)).alloc (.cells #[.int .i64 0] 3)).heap.size = w.heap.size + 5 := by simp
  have k0 : (((((w.alloc (.cells #[.int .i64 3] 3)).alloc (.cells #[.bool false] 4)).alloc (.cells #[.string S] 9)).alloc (.cells #[.string ⟨#[44]⟩] 9)).alloc (.cells #[.int .i64 0] 3)).heap[w.heap.size]? = some (.cells #[.int .i64 3] 3) := al_old (al_old (al_old (al_old (al_new w _) _) _) _) _
  have k1 : (((((w.alloc (.cells #[.int .i64 3] 3)).alloc (.cells #[.bool false] 4)).alloc (.cells #[.string S] 9)).alloc (.cells #[.string ⟨#[44]⟩] 9)).alloc (.cells #[.int .i64 0] 3)).heap[w.heap.size + 1]? = some (.cells #[.bool false] 4) := al_old (al_old (al_old (al_at (by simp)) _) _) _
  have k2 : (((((w.alloc (.cells #[.int .i64 3] 3)).alloc (.cells #[.bool false] 4)).alloc (.cells #[.string S] 9)).alloc (.cells #[.string ⟨#[44]⟩] 9)).alloc (.cells #[.int .i64 0] 3)).heap[w.heap.size + 2]? = some (.cells #[.string S] 9) := al_old (al_old (al_at (by simp)) _) _
  have k3 : (((((w.alloc (.cells #[.int .i64 3] 3)).alloc (.cells #[.bool false] 4)).alloc (.cells #[.string S] 9)).alloc (.cells #[.string ⟨#[44]⟩] 9)).alloc (.cells #[.int .i64 0] 3)).heap[w.heap.size + 3]? = some (.cells #[.string ⟨#[44]⟩] 9) := al_old (al_at (by simp)) _
  have k4 : (((((w.alloc (.cells #[.int .i64 3] 3)).alloc (.cells #[.bool false] 4)).alloc (.cells #[.string S] 9)).alloc (.cells #[.string ⟨#[44]⟩] 9)).alloc (.cells #[.int .i64 0] 3)).heap[w.heap.size + 4]? = some (.cells #[.int .i64 0] 3) := al_at (by simp)
  generalize (((((w.alloc (.cells #[.int .i64 3] 3)).alloc (.cells #[.bool false] 4)).alloc (.cells #[.string S] 9)).alloc (.cells #[.string ⟨#[44]⟩] 9)).alloc (.cells #[.int .i64 0] 3)) = w5 at *
  have hw1 : w.heap.size + 1 + 1 = w.heap.size + 2 := rfl
  refine range_outer 26 #[.pointer (some ⟨w.heap.size + 3, 0, none⟩), .pointer (some ⟨w.heap.size + 2, 0, none⟩), .pointer (some ⟨w.heap.size + 4, 0, none⟩)] rfl (enters_of Tryd.func26 (by kernel_rfl) rfl) (fun fn => ?_)
  refine callsIn_wide.2 ?_
  rw [hz5]
  generalize hrc : Loop.mk _ _ _ _ _ _ _ _ = rc
  have rs : rc.state = .ready := by rw [← hrc]
  have rp : rc.pending = none := by rw [← hrc]
  have r1 := (congrArg Loop.assign hrc).symm
  have r2 := (congrArg Loop.body hrc).symm
  have r3 := (congrArg Loop.tmps hrc).symm
  have r4 := (congrArg Loop.params hrc).symm
  dsimp only at r1 r2 r3 r4
  clear hrc
  refine (iterR w rc l 3 hl (3, false) _ ⟨al_old (al_old k0 _) _, al_old (al_old k1 _) _, al_old (al_at hz5) _, al_at (by simp [hz5]), (B5.alloc (by omega) _).alloc (by simp; omega) _⟩ ⟨by rw [← H.out.2]; exact al_old (al_old k2 _) _, al_old (al_old k3 _) _, al_old (al_old k4 _) _⟩ ?hY).mono ?_
  case hY =>
    intro p u m W1 hp hA hB
    refine ⟨rc.fn, _, _, _, run_yield (args := #[.string (bl p)]) hA.ll (by rw [r4]; rfl), roundIn_of_wpIn trivial ?_⟩
    rw [r1, r2, r3, r4]
    gi_wp2
    obtain ⟨W2, hb2, hA2, hB2⟩ := hA.begin (P := Tryd.prog) rs
    refine ⟨W2, hb2, ?_⟩
    replace hB2 := hB2 m hB
    have C := trimI p W2 (by omega)
    have HC : Hid _ := And.intro hA2 (And.intro hB2 C)
    have hc0 : W2.cell? ⟨w.heap.size, 0, none⟩ = some (.int .i64 u.1) := (bk_cell hA2.cu 0).trans rfl
    clear r1 r2 r3 r4 hb2 hA hB hA2 hB2 C k0 k1 k2 k3 k4 B5 hz5
    gi_wp2_with (refine ⟨trivial, ?_⟩; gi_at_call 14; refine (CallsIn.inRound (w.heap.size + 6) (callsIn_wide.2 HC.out.2.2)).mono ?_; rintro e w1 ⟨rfl, b1⟩; have H1 : Hid _ := And.intro (HC.out.1.below b1) (HC.out.2.1.below b1); clear b1)
    obtain ⟨q, eq⟩ : ∃ q, q = tL (tR p) := ⟨_, rfl⟩
    rw [← eq]
    have d0 : w1.cell? ⟨w.heap.size, 0, none⟩ = some (.int .i64 u.1) := (bk_cell H1.out.1.cu 0).trans rfl
    have d1 : w1.cell? ⟨w.heap.size + 1, 0, none⟩ = some (.bool u.2) := (bk_cell H1.out.1.ct 0).trans rfl
    have f0 := bk_free H1.out.1.cu 0
    have f1 := bk_free H1.out.1.ct 0
    have HQ : Hid _ := And.intro eq True.intro
    clear eq hc0
    gi_loopw [18] (fun i wr => ∃ j : Nat, j ≤ 8 ∧ i = .int .i64 (j : Int) ∧ (∀ k, k < j → q ≠ [117, 61, 48 + k.toUInt8]) ∧ wr = w1) (fun i _ => 8 - (intOf i).toNat)
    case atStart => exact ⟨0, by omega, rfl, fun k hk => by omega, rfl⟩
    case round =>
      obtain ⟨j, hj, rfl, hno, hwr⟩ := hrel
      subst hwr
      by_cases hlt : j < 8
      · have hlt' : (j : Int) < 8 := by omega
        have CP := ptI (j : Int) false wr
        rw [pt_bl j hlt] at CP
        have t := bl_tl q [117, 61, 48 + j.toUInt8]
        have t2 := bl_eq q [117, 61, 48 + j.toUInt8]
        by_cases hq : q = [117, 61, 48 + j.toUInt8]
        · rw [decide_eq_true hq] at t t2
          have HX : Hid _ := And.intro CP (And.intro hq hno)
          clear CP hq hno
          generalize bl [117, 61, 48 + j.toUInt8] = Y at *
          generalize bl q = T at *
          gi_wp2_with (refine ⟨trivial, ?_⟩; gi_at_call 5; refine (CallsIn.inRound (w.heap.size + 6) (callsIn_wide.2 HX.out.1)).mono ?_; rintro e w2 ⟨rfl, hw⟩; subst hw)
          obtain ⟨W4, he4, hA4, hB4⟩ := (H1.out.1.setU (j : Int)).endR (P := Tryd.prog) rs rp
          exact ⟨_, W4, he4, rfl, by rw [stp_dig u p j hlt (by rw [← HQ.out.1]; exact HX.out.2.1)]; exact hA4, hB4 m (H1.out.2.setN _ _ (by omega))⟩
        · rw [decide_eq_false hq] at t t2
          have HX : Hid _ := And.intro CP (And.intro hq hno)
          clear CP hq hno
          generalize bl [117, 61, 48 + j.toUInt8] = Y at *
          generalize bl q = T at *
          gi_wp2_with (refine ⟨trivial, ?_⟩; gi_at_call 5; refine (CallsIn.inRound (w.heap.size + 6) (callsIn_wide.2 HX.out.1)).mono ?_; rintro e w2 ⟨rfl, hw⟩; subst hw)
          refine ⟨⟨j + 1, by omega, by congr 1, fun k hk => ?_, trivial⟩, by simp [intOf]; omega⟩
          by_cases e : k = j
          · rw [e]; exact HX.out.2.1
          · exact HX.out.2.2 k (by omega)
      · have h8 : ¬ ((j : Int) < 8) := by omega
        have hug := ug_no q (fun k hk => hno k (by omega))
        have hst : stp u p = if q = [105] ∨ q = [105, 61, 63, 49] then (u.1, true) else if q = [105, 61, 63, 48] then (u.1, false) else u := by
          unfold stp
          rw [← HQ.out.1, hug]
        have a1 : (bl q == (⟨#[105]⟩ : ByteArray)) = decide (q = [105]) := bl_eq q [105]
        have a2 : (bl q == (⟨#[105, 61, 63, 49]⟩ : ByteArray)) = decide (q = [105, 61, 63, 49]) := bl_eq q [105, 61, 63, 49]
        have a3 : (bl q == (⟨#[105, 61, 63, 48]⟩ : ByteArray)) = decide (q = [105, 61, 63, 48]) := bl_eq q [105, 61, 63, 48]
        by_cases q1 : q = [105]
        · rw [if_pos (Or.inl q1)] at hst
          rw [decide_eq_true q1] at a1
          have t1 := tl_litR _ _ _ a1
          have HX : Hid _ := And.intro hst q1
          clear hst q1 a2 a3 hug hno
          generalize bl q = T at *
          gi_wp2
          obtain ⟨W4, he4, hA4, hB4⟩ := (H1.out.1.setT true).endR (P := Tryd.prog) rs rp
          exact ⟨_, W4, he4, rfl, by rw [HX.out.1]; exact hA4, hB4 m (H1.out.2.setN _ _ (by omega))⟩
        by_cases q2 : q = [105, 61, 63, 49]
        · rw [if_pos (Or.inr q2)] at hst
          rw [decide_eq_false q1] at a1
          rw [decide_eq_true q2] at a2
          have t1 := tl_litR _ _ _ a1
          have t2 := tl_litR _ _ _ a2
          have HX : Hid _ := And.intro hst q1
          clear hst q1 q2 a3 hug hno
          generalize bl q = T at *
          gi_wp2
          obtain ⟨W4, he4, hA4, hB4⟩ := (H1.out.1.setT true).endR (P := Tryd.prog) rs rp
          exact ⟨_, W4, he4, rfl, by rw [HX.out.1]; exact hA4, hB4 m (H1.out.2.setN _ _ (by omega))⟩
        rw [if_neg (fun h => h.elim q1 q2)] at hst
        rw [decide_eq_false q1] at a1
        rw [decide_eq_false q2] at a2
        by_cases q3 : q = [105, 61, 63, 48]
        · rw [if_pos q3] at hst
          rw [decide_eq_true q3] at a3
          have t1 := tl_litR _ _ _ a1
          have t2 := tl_litR _ _ _ a2
          have t3 := tl_litR _ _ _ a3
          have HX : Hid _ := And.intro hst q1
          clear hst q1 q2 q3 hug hno
          generalize bl q = T at *
          gi_wp2
          obtain ⟨W4, he4, hA4, hB4⟩ := (H1.out.1.setT false).endR (P := Tryd.prog) rs rp
          exact ⟨_, W4, he4, rfl, by rw [HX.out.1]; exact hA4, hB4 m (H1.out.2.setN _ _ (by omega))⟩
        · rw [if_neg q3] at hst
          rw [decide_eq_false q3] at a3
          have t1 := tl_litR _ _ _ a1
          have t2 := tl_litR _ _ _ a2
          have t3 := tl_litR _ _ _ a3
          have HX : Hid _ := And.intro hst q1
          clear hst q1 q2 q3 hug hno
          generalize bl q = T at *
          gi_wp2
          obtain ⟨W4, he4, hA4, hB4⟩ := H1.out.1.endR (P := Tryd.prog) rs rp
          exact ⟨_, W4, he4, rfl, by rw [HX.out.1]; exact hA4, hB4 m H1.out.2⟩
  · rintro e W3 ⟨⟨v, rfl⟩, hA⟩
    have hrp : (pa l.length l).foldl stp (3, false) = V := by rw [HV.out.1]; unfold rpV; rw [if_neg (by omega)]
    rw [hrp] at hA
    refine ⟨none, W3.putObj (w.heap.size + 6) (.loop { rc with state := .exhausted }), (run_endLoop (P := Tryd.prog) hA.ll (by rw [rs]; simp)).trans (by rw [rp]), ?_⟩
    have e0 : (W3.putObj (w.heap.size + 6) (.loop { rc with state := .exhausted })).cell? ⟨w.heap.size, 0, none⟩ = some (.int .i64 V.1) := (bk_cell ((World.putObj_heap_other (by omega)).trans hA.cu) 0).trans rfl
    have e1 : (W3.putObj (w.heap.size + 6) (.loop { rc with state := .exhausted })).cell? ⟨w.heap.size + 1, 0, none⟩ = some (.bool V.2) := (bk_cell ((World.putObj_heap_other (by omega)).trans hA.ct) 0).trans rfl
    have hD : (W3.putObj (w.heap.size + 6) (.loop { rc with state := .exhausted })).heap[w.heap.size + 5]? = some (.deferred (some [])) := (World.putObj_heap_other (by omega)).trans hA.dd
    have hB3 := put_below hA.bw (w.heap.size + 6) (.loop { rc with state := .exhausted }) (by omega)
    generalize W3.putObj (w.heap.size + 6) (.loop { rc with state := .exhausted }) = W4 at *
    have H4 : Hid _ := And.intro hD hB3
    clear hD hB3 hA
    have e0d : W4.drew.cell? ⟨w.heap.size, 0, none⟩ = some (.int .i64 V.1) := e0
    have e1d : W4.drew.cell? ⟨w.heap.size + 1, 0, none⟩ = some (.bool V.2) := e1
    go_wp2_with fail
    go_quiet (fail)
    go_wp2
    rw [Exit.noGoto_ret]
    have hD : (W4.drewN nq).heap[w.heap.size + 5]? = some (.deferred (some [])) := H4.out.1
    refine ⟨by simp, .inl ⟨_, _, rfl, run_takeDeferred hD, ?_⟩⟩
    refine ⟨_, results_tmp2 rfl _ _ _, rfl, put_below (below_drewN H4.out.2 nq) _ _ (by omega)⟩
theorem readP_long (s : ByteArray) (w : World) (hl : 1024 < s.size) (hm : s.size ≤ 9223372036854775807) :
    Calls Tryd.prog 6 #[.string s] w fun e w' => e = .returned (.tuple #[.int .i64 3, .bool false]) ∧ Below w.heap.size w w' := by
  have hl' : (1024 : Int) < (s.size : Int) := by omega
  go_enter Tryd.func6, Tryd.ntmps6
  go_wp2_with fail
  go_step3
  go_wp2_with fail
  go_quiet (fail)
  go_wp2
  rw [Exit.noGoto_ret]
  go_ret2
  exact ⟨rfl, below_drewN (((Below.refl _ _).alloc (Nat.le_refl _) _).alloc (by simp) _) nq⟩
end Go.Proofs.YtpbkigmcbgbfgaaDoor
