import Derived.Test.YtbbiinbjgognjaaDoorSrV
import Derived.Test.YtbbiinbjgognjaaDoorPkP
namespace Go.Proofs.YtbbiinbjgognjaaDoor
open Go.RowKit
set_option linter.unusedVariables false

/-- Eight stores into one block. -/
abbrev st8 (w : World) (g : Nat) (a0 a1 a2 a3 a4 a5 a6 a7 : Value) : World := ((((((((w.setCell ⟨g, 0, none⟩ a0).setCell ⟨g, 1, none⟩ a1).setCell ⟨g, 2, none⟩ a2).setCell ⟨g, 3, none⟩ a3).setCell ⟨g, 4, none⟩ a4).setCell ⟨g, 5, none⟩ a5).setCell ⟨g, 6, none⟩ a6).setCell ⟨g, 7, none⟩ a7)
theorem st8_heap {w : World} {g : Nat} {a0 a1 a2 a3 a4 a5 a6 a7 c0 c1 c2 c3 c4 c5 c6 c7 : Value} {t : TypeId} (h : w.heap[g]? = some (.cells #[c0, c1, c2, c3, c4, c5, c6, c7] t (0, 0))) : (st8 w g a0 a1 a2 a3 a4 a5 a6 a7).heap[g]? = some (.cells #[a0, a1, a2, a3, a4, a5, a6, a7] t (0, 0)) :=
  ((bk_set (bk_set (bk_set (bk_set (bk_set (bk_set (bk_set (bk_set h 0 a0) 1 a1) 2 a2) 3 a3) 4 a4) 5 a5) 6 a6) 7 a7)).trans (congrArg (fun x => some (Obj.cells x t (0, 0))) (by simp))
theorem st8_below {w0 w : World} {B g : Nat} {a0 a1 a2 a3 a4 a5 a6 a7 : Value} (h : Below B w0 w) (hg : B ≤ g) : Below B w0 (st8 w g a0 a1 a2 a3 a4 a5 a6 a7) := (Below.setCell (Below.setCell (Below.setCell (Below.setCell (Below.setCell (Below.setCell (Below.setCell (Below.setCell h (p := ⟨g, 0, none⟩) hg a0) (p := ⟨g, 1, none⟩) hg a1) (p := ⟨g, 2, none⟩) hg a2) (p := ⟨g, 3, none⟩) hg a3) (p := ⟨g, 4, none⟩) hg a4) (p := ⟨g, 5, none⟩) hg a5) (p := ⟨g, 6, none⟩) hg a6) (p := ⟨g, 7, none⟩) hg a7)
theorem st8_chg {w0 w : World} {S : Nat → Prop} {g : Nat} {a0 a1 a2 a3 a4 a5 a6 a7 : Value} (h : Chg S w0 w) (hg : S g) : Chg S w0 (st8 w g a0 a1 a2 a3 a4 a5 a6 a7) := (Chg.set (Chg.set (Chg.set (Chg.set (Chg.set (Chg.set (Chg.set (Chg.set h g 0 a0 hg) g 1 a1 hg) g 2 a2 hg) g 3 a3 hg) g 4 a4 hg) g 5 a5 hg) g 6 a6 hg) g 7 a7 hg)
theorem st8_owns {w : World} {B g t m : Nat} {a0 a1 a2 a3 a4 a5 a6 a7 v : Value} {L : List Value} (h : w.ownsRow B t 1 v m L) (hg : g < B) : (st8 w g a0 a1 a2 a3 a4 a5 a6 a7).ownsRow B t 1 v m L := (owns_set (g := g) (i := 7) (u := a7) (owns_set (g := g) (i := 6) (u := a6) (owns_set (g := g) (i := 5) (u := a5) (owns_set (g := g) (i := 4) (u := a4) (owns_set (g := g) (i := 3) (u := a3) (owns_set (g := g) (i := 2) (u := a2) (owns_set (g := g) (i := 1) (u := a1) (owns_set (g := g) (i := 0) (u := a0) h hg) hg) hg) hg) hg) hg) hg) hg)
theorem results_row_tmp2 {P : Program} {fn : Func} {p q r : Tmp} {ty : TypeId} (h : fn.results = #[.cell p ty, .tmp q, .tmp r]) (tmps : Array Value) (w : World) (g : Nat) (t : TypeId) (cs : Array Value) (fr : Nat × Nat) (d : TypeDesc) (u v : Value)
    (hp : tmps.getD p undef = .pointer (some ⟨g, 0, none⟩)) (hq : tmps.getD q undef = u) (hr : tmps.getD r undef = v) (hg : w.heap[g]? = some (.cells cs t fr))
    (hu : P.underlying ty = some d) (hd : (match d with | .struct _ | .array _ _ => true | _ => false) = true) (hi : (P.info? ty).map (·.size) = some cs.size) :
    (results fn tmps).run P w = .ok (.tuple #[.agg cs, u, v]) w := by
  have hp' : tmps[p]?.getD undef = .pointer (some ⟨g, 0, none⟩) := by simpa using hp
  have hq' : tmps[q]?.getD undef = u := by simpa using hq
  have hr' : tmps[r]?.getD undef = v := by simpa using hr
  simp [results, h, hp', hq', hr', asAddr, run_loadVar_row w g t ty cs fr d hg hu hd hi]
theorem infoHd : (Tryd.prog.info? 24).map (·.size) = some 8 := by kernel_rfl
/-- A header in a block. -/
abbrev hdB (w : World) (g : Nat) (a0 a1 a2 a3 a4 a5 a6 a7 : Value) : Prop := w.heap[g]? = some (.cells #[a0, a1, a2, a3, a4, a5, a6, a7] 24 (0, 0))
theorem hdB_cells {w : World} {g : Nat} {a0 a1 a2 a3 a4 a5 a6 a7 : Value} (h : hdB w g a0 a1 a2 a3 a4 a5 a6 a7) : w.cell? ⟨g, 0, none⟩ = some a0 ∧ w.cell? ⟨g, 1, none⟩ = some a1 ∧ w.cell? ⟨g, 2, none⟩ = some a2 ∧ w.cell? ⟨g, 3, none⟩ = some a3 ∧ w.cell? ⟨g, 4, none⟩ = some a4 ∧ w.cell? ⟨g, 5, none⟩ = some a5 ∧ w.cell? ⟨g, 6, none⟩ = some a6 ∧ w.cell? ⟨g, 7, none⟩ = some a7 := ⟨(bk_cell h 0).trans rfl, (bk_cell h 1).trans rfl, (bk_cell h 2).trans rfl, (bk_cell h 3).trans rfl, (bk_cell h 4).trans rfl, (bk_cell h 5).trans rfl, (bk_cell h 6).trans rfl, (bk_cell h 7).trans rfl⟩
theorem hdB_free {w : World} {g : Nat} {a0 a1 a2 a3 a4 a5 a6 a7 : Value} (h : hdB w g a0 a1 a2 a3 a4 a5 a6 a7) : w.frozen? ⟨g, 0, none⟩ = false ∧ w.frozen? ⟨g, 1, none⟩ = false ∧ w.frozen? ⟨g, 2, none⟩ = false ∧ w.frozen? ⟨g, 3, none⟩ = false ∧ w.frozen? ⟨g, 4, none⟩ = false ∧ w.frozen? ⟨g, 5, none⟩ = false ∧ w.frozen? ⟨g, 6, none⟩ = false ∧ w.frozen? ⟨g, 7, none⟩ = false := ⟨bk_free h 0, bk_free h 1, bk_free h 2, bk_free h 3, bk_free h 4, bk_free h 5, bk_free h 6, bk_free h 7⟩
theorem drew_heap (X : World) (k : Nat) : X.drew.heap[k]? = X.heap[k]? := rfl
theorem owns_drew {X : World} {B t m : Nat} {v : Value} {L : List Value} (h : X.ownsRow B t 1 v m L) : X.drew.ownsRow B t 1 v m L := h
theorem Chg.trim {S : Nat → Prop} {w w' : World} (h : Chg (fun k => S k ∨ w.heap.size ≤ k) w w') : Chg S w w' := ⟨h.os, h.tape, h.output, h.size, fun k hk hn => h.block k hk (fun hh => by rcases hh with hh | hh; exact hn hh; omega)⟩
theorem Chg.wide {S : Nat → Prop} {w w' : World} {B : Nat} (h : Chg S w w') : Chg (fun k => S k ∨ B ≤ k) w w' := h.mono fun _ hk => Or.inl hk
theorem two_new (w : World) (o0 o1 : Obj) : ((w.alloc o0).alloc o1).heap[w.heap.size]? = some o0 ∧ ((w.alloc o0).alloc o1).heap[w.heap.size + 1]? = some o1 ∧ Chg (fun _ => False) w ((w.alloc o0).alloc o1) :=
  ⟨(bk_new2 w o0 o1).1, (bk_new2 w o0 o1).2, ((Chg.refl _ w).alloc _).alloc _⟩
set_option maxRecDepth 20000 in
set_option maxHeartbeats 2000000 in
theorem retryS (g b off n cap p : Nat) (xs : List Int) (f v : Int) (da sa : Option Addr) (dn dp sn sp : Nat) (w : World) (h : srB w g (.slice (some ⟨b, off, none⟩) n cap) p false) (hl : Lies w b off n cap xs) (hgb : b ≠ g) (hn : n ≤ 65536) (hp : p ≤ n) :
    Calls Tryd.prog 39 #[.pointer (some ⟨g, 0, none⟩), .agg #[.int .i64 f, .int .i64 v, .slice da dn dp, .slice sa sn sp, .slice none 0 0, .int .i64 0, .int .i64 0, .int .i64 0]] w fun e w' => Chg (· = g) w w' ∧ ((∃ c, pkRet xs p = .error c ∧ e = .returned (.tuple #[.agg #[.int .i64 0, .int .i64 0, .slice none 0 0, .slice none 0 0, .slice none 0 0, .int .i64 0, .int .i64 0, .int .i64 0], .int .i64 0, .int .i64 c])) ∨
      ∃ t vt, pkRet xs p = .ok t ∧ e = .returned (.tuple #[.agg #[.int .i64 3, .int .i64 v, .slice da dn dp, .slice sa sn sp, vt, .int .i64 0, .int .i64 0, .int .i64 0], .int .i64 n, .int .i64 0]) ∧ w'.ownsRow w.heap.size 5 1 vt t.length (t.map (Value.int .u8))) := by
  have hlen := hl.len
  have hgl := h.lt
  obtain ⟨e0, e1, C0⟩ := two_new w (.cells #[.int .i64 f, .int .i64 v, .slice da dn dp, .slice sa sn sp, .slice none 0 0, .int .i64 0, .int .i64 0, .int .i64 0] 24) (.cells #[.int .i64 0, .int .i64 0, .slice none 0 0, .slice none 0 0, .slice none 0 0, .int .i64 0, .int .i64 0, .int .i64 0] 24)
  have c0 := h.c0
  have c1 := h.c1
  have hw : IntKind.i64.wrap ((n : Int) - p) = (n : Int) - p := by rw [IntKind.wrap_i64]; omega
  have hw8 : IntKind.i64.wrap ((n : Int) - p - 8) = (n : Int) - p - 8 := by rw [IntKind.wrap_i64]; omega
  by_cases h1 : n < p + 9
  · have e : pkRet xs p = .error 2 := by unfold pkRet; rw [if_pos (by omega)]
    have b1 : decide ((n : Int) - p - 8 < 1) = true := decide_eq_true (by omega)
    have HE : Hid _ := And.intro e (And.intro e1 C0)
    clear h hl e hlen e0 e1 C0 h1
    go_enter Tryd.func39, Tryd.ntmps39
    go_wp2_with fail
    go_region
    go_wp2_with fail
    refine bodyPost_ret (v := .tuple #[.agg #[.int .i64 0, .int .i64 0, .slice none 0 0, .slice none 0 0, .slice none 0 0, .int .i64 0, .int .i64 0, .int .i64 0], .int .i64 0, .int .i64 2]) ?_ rfl ?_
    · exact results_row_tmp2 (t := 24) rfl _ _ (w.heap.size + 1) _ (fr := (0, 0)) _ _ _ rfl rfl rfl HE.out.2.1 Tryd.underlying24 rfl infoHd
    · exact ⟨⟨HE.out.2.2.os, HE.out.2.2.tape, HE.out.2.2.output, HE.out.2.2.size, fun k hk _ => HE.out.2.2.block k hk (fun hh => hh)⟩, Or.inl ⟨2, HE.out.1, rfl⟩⟩
  have b1 : decide ((n : Int) - p - 8 < 1) = false := decide_eq_false (by omega)
  by_cases h2 : p + 72 < n
  · have e : pkRet xs p = .error 3 := by unfold pkRet; rw [if_neg (by omega), if_pos (by omega)]
    have b2 : decide (64 < (n : Int) - p - 8) = true := decide_eq_true (by omega)
    have HE : Hid _ := And.intro e (And.intro e1 C0)
    clear h hl e hlen e0 e1 C0 h1 h2
    go_enter Tryd.func39, Tryd.ntmps39
    go_wp2_with fail
    go_region
    go_wp2_with fail
    refine bodyPost_ret (v := .tuple #[.agg #[.int .i64 0, .int .i64 0, .slice none 0 0, .slice none 0 0, .slice none 0 0, .int .i64 0, .int .i64 0, .int .i64 0], .int .i64 0, .int .i64 3]) ?_ rfl ?_
    · exact results_row_tmp2 (t := 24) rfl _ _ (w.heap.size + 1) _ (fr := (0, 0)) _ _ _ rfl rfl rfl HE.out.2.1 Tryd.underlying24 rfl infoHd
    · exact ⟨⟨HE.out.2.2.os, HE.out.2.2.tape, HE.out.2.2.output, HE.out.2.2.size, fun k hk _ => HE.out.2.2.block k hk (fun hh => hh)⟩, Or.inl ⟨3, HE.out.1, rfl⟩⟩
  obtain ⟨m, hm⟩ : ∃ m : Nat, n = p + m + 8 := ⟨n - p - 8, by omega⟩
  have e : pkRet xs p = .ok (sub xs p m) := by unfold pkRet; rw [if_neg (by omega), if_neg (by omega), show xs.length - p - 8 = m by omega]
  have hsl : (sub xs p m).length = m := sub_len xs p m (by omega)
  have hw8' : IntKind.i64.wrap ((n : Int) - p - 8) = (m : Int) := by rw [IntKind.wrap_i64]; omega
  have b1' : decide ((m : Int) < 1) = false := decide_eq_false (by omega)
  have b2' : decide ((64 : Int) < (m : Int)) = false := decide_eq_false (by omega)
  obtain ⟨e0', e1', C0'⟩ := two_new w (.cells #[.int .i64 3, .int .i64 v, .slice da dn dp, .slice sa sn sp, .slice none 0 0, .int .i64 0, .int .i64 0, .int .i64 0] 24) (.cells #[.int .i64 0, .int .i64 0, .slice none 0 0, .slice none 0 0, .slice none 0 0, .int .i64 0, .int .i64 0, .int .i64 0] 24)
  have hW3 : Chg (· = g) w ((w.alloc (.cells #[.int .i64 3, .int .i64 v, .slice da dn dp, .slice sa sn sp, .slice none 0 0, .int .i64 0, .int .i64 0, .int .i64 0] 24)).alloc (.cells #[.int .i64 0, .int .i64 0, .slice none 0 0, .slice none 0 0, .slice none 0 0, .int .i64 0, .int .i64 0, .int .i64 0] 24)).drew := ⟨C0'.os, C0'.tape, C0'.output, C0'.size, fun k hk _ => C0'.block k hk (fun hh => hh)⟩
  have hs3' := h.chg C0' (fun hh => hh)
  have hs3 : srB ((w.alloc (.cells #[.int .i64 3, .int .i64 v, .slice da dn dp, .slice sa sn sp, .slice none 0 0, .int .i64 0, .int .i64 0, .int .i64 0] 24)).alloc (.cells #[.int .i64 0, .int .i64 0, .slice none 0 0, .slice none 0 0, .slice none 0 0, .int .i64 0, .int .i64 0, .int .i64 0] 24)).drew g (.slice (some ⟨b, off, none⟩) n cap) p false := hs3'
  have ht := takeS_ok g b off n cap p m xs _ hs3 ((hl.chg C0' (fun hh => hh)).drew) hgb hn (by omega)
  have HE : Hid _ := And.intro e (And.intro e0' (And.intro e1' (And.intro hW3 (And.intro hsl (And.intro hgl hs3.lt)))))
  clear h hl e hlen e0 e1 C0 h1 h2 hw8 b1 hm hsl hp hn hgb e0' e1' C0' hW3 hs3 hs3'
  generalize sub xs p m = ys at *
  go_enter Tryd.func39, Tryd.ntmps39
  go_wp2_with fail
  go_region
  go_wp2_with fail
  go_at_call 37
  refine ht.mono ?_
  rintro e w4 ⟨vt, rfl, o4, r4, c4⟩
  have k0 := (c4.block w.heap.size (by simp <;> omega) (fun e => by have := HE.out.2.2.2.2.2.1; omega)).trans HE.out.2.1
  have k1 := (c4.block (w.heap.size + 1) (by simp <;> omega) (fun e => by have := HE.out.2.2.2.2.2.1; omega)).trans HE.out.2.2.1
  obtain ⟨p0, p1, p2, p3, p4, p5, p6, p7⟩ := hdB_cells k0
  have q4 : w4.frozen? ⟨w.heap.size, 4, none⟩ = false := bk_free k0 4
  obtain ⟨x0, x1, x2, x3, x4, x5, x6, x7⟩ := hdB_cells k1
  obtain ⟨y0, y1, y2, y3, y4, y5, y6, y7⟩ := hdB_free k1
  have d0 := r4.c0
  have hne : ∀ q, vt.ownBlock = some q → w.heap.size + 2 ≤ q := fun q hq => by have := (o4.lt q hq).1; simpa using this
  have cA := HE.out.2.2.2.1.trans c4
  have hgw := HE.out.2.2.2.2.2.1
  have hgn : ¬ g = w.heap.size := by omega
  have hgn1 : ¬ g = w.heap.size + 1 := by omega
  obtain ⟨ta, tp, et⟩ := (row_of_owns o4).form
  rw [HE.out.2.2.2.2.1] at et
  have HF : Hid _ := And.intro o4 (And.intro cA (And.intro hne k1))
  clear o4 r4 c4 k0 cA hne k1
  subst et
  go_wp2_with fail
  go_region
  go_wp2_with fail
  have hk1 : (w4.setCell ⟨w.heap.size, 4, none⟩ (.slice ta m tp)).heap[w.heap.size + 1]? = _ := (bk_other (by omega) 4 _).trans HF.out.2.2.2
  have hk2 : (st8 (w4.setCell ⟨w.heap.size, 4, none⟩ (.slice ta m tp)) (w.heap.size + 1) (.int .i64 3) (.int .i64 v) (.slice da dn dp) (.slice sa sn sp) (.slice ta m tp) (.int .i64 0) (.int .i64 0) (.int .i64 0)).heap[w.heap.size + 1]? = some (.cells #[.int .i64 3, .int .i64 v, .slice da dn dp, .slice sa sn sp, .slice ta m tp, .int .i64 0, .int .i64 0, .int .i64 0] 24 (0, 0)) := st8_heap hk1
  have hc1 : Chg (fun k => k = g ∨ w.heap.size ≤ k) w (w4.setCell ⟨w.heap.size, 4, none⟩ (.slice ta m tp)) := (HF.out.2.1.wide (B := w.heap.size)).set w.heap.size 4 (.slice ta m tp) (Or.inr (Nat.le_refl _))
  have hc2 : Chg (fun k => k = g ∨ w.heap.size ≤ k) w (st8 (w4.setCell ⟨w.heap.size, 4, none⟩ (.slice ta m tp)) (w.heap.size + 1) (.int .i64 3) (.int .i64 v) (.slice da dn dp) (.slice sa sn sp) (.slice ta m tp) (.int .i64 0) (.int .i64 0) (.int .i64 0)) := st8_chg hc1 (Or.inr (by omega))
  have hc3 : Chg (fun k => k = g ∨ w.heap.size ≤ k) w (st8 (w4.setCell ⟨w.heap.size, 4, none⟩ (.slice ta m tp)) (w.heap.size + 1) (.int .i64 3) (.int .i64 v) (.slice da dn dp) (.slice sa sn sp) (.slice ta m tp) (.int .i64 0) (.int .i64 0) (.int .i64 0)).drew := hc2.drew
  have hB2 : w.heap.size + 1 < ((w.alloc (.cells #[.int .i64 3, .int .i64 v, .slice da dn dp, .slice sa sn sp, .slice none 0 0, .int .i64 0, .int .i64 0, .int .i64 0] 24)).alloc (.cells #[.int .i64 0, .int .i64 0, .slice none 0 0, .slice none 0 0, .slice none 0 0, .int .i64 0, .int .i64 0, .int .i64 0] 24)).drew.heap.size := by simp
  have ho0 := HF.out.1
  generalize ((w.alloc (.cells #[.int .i64 3, .int .i64 v, .slice da dn dp, .slice sa sn sp, .slice none 0 0, .int .i64 0, .int .i64 0, .int .i64 0] 24)).alloc (.cells #[.int .i64 0, .int .i64 0, .slice none 0 0, .slice none 0 0, .slice none 0 0, .int .i64 0, .int .i64 0, .int .i64 0] 24)).drew.heap.size = Bz at ho0 hB2
  have ho1 : (w4.setCell ⟨w.heap.size, 4, none⟩ (.slice ta m tp)).ownsRow Bz 5 1 (.slice ta m tp) m (ys.map (Value.int .u8)) := owns_set ho0 (by omega)
  have ho2 : (st8 (w4.setCell ⟨w.heap.size, 4, none⟩ (.slice ta m tp)) (w.heap.size + 1) (.int .i64 3) (.int .i64 v) (.slice da dn dp) (.slice sa sn sp) (.slice ta m tp) (.int .i64 0) (.int .i64 0) (.int .i64 0)).ownsRow Bz 5 1 (.slice ta m tp) m (ys.map (Value.int .u8)) := st8_owns ho1 hB2
  have ho3 : (st8 (w4.setCell ⟨w.heap.size, 4, none⟩ (.slice ta m tp)) (w.heap.size + 1) (.int .i64 3) (.int .i64 v) (.slice da dn dp) (.slice sa sn sp) (.slice ta m tp) (.int .i64 0) (.int .i64 0) (.int .i64 0)).drew.ownsRow w.heap.size 5 1 (.slice ta m tp) m (ys.map (Value.int .u8)) := owns_drew (owns_mono ho2 (by omega))
  have hk3 : (st8 (w4.setCell ⟨w.heap.size, 4, none⟩ (.slice ta m tp)) (w.heap.size + 1) (.int .i64 3) (.int .i64 v) (.slice da dn dp) (.slice sa sn sp) (.slice ta m tp) (.int .i64 0) (.int .i64 0) (.int .i64 0)).drew.heap[w.heap.size + 1]? = some (.cells #[.int .i64 3, .int .i64 v, .slice da dn dp, .slice sa sn sp, .slice ta m tp, .int .i64 0, .int .i64 0, .int .i64 0] 24 (0, 0)) := (drew_heap _ _).trans hk2
  have HL : Hid _ := And.intro hk3 (And.intro hc3.trim ho3)
  clear hk1 hk2 hc1 hc2 hc3 ho0 ho1 ho2 ho3 hk3
  refine bodyPost_ret (v := .tuple #[.agg #[.int .i64 3, .int .i64 v, .slice da dn dp, .slice sa sn sp, .slice ta m tp, .int .i64 0, .int .i64 0, .int .i64 0], .int .i64 n, .int .i64 0]) ?_ rfl ?_
  · exact results_row_tmp2 (t := 24) rfl _ _ (w.heap.size + 1) _ (fr := (0, 0)) _ _ _ rfl rfl rfl HL.out.1 Tryd.underlying24 rfl infoHd
  · exact ⟨HL.out.2.1, Or.inr ⟨ys, .slice ta m tp, HE.out.1, rfl, by rw [HE.out.2.2.2.2.1]; exact HL.out.2.2⟩⟩
end Go.Proofs.YtbbiinbjgognjaaDoor
