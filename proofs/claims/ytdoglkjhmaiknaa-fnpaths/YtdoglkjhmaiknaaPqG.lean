import Derived.Test.YtdoglkjhmaiknaaPqF
import Derived.Test.YtdoglkjhmaiknaaPqE
import Derived.Deep.RegionWith
import Derived.Deep.RegionLaw
import Derived.Defers
import Derived.Deep.LoopGhost
import Derived.Laws.Tables
namespace Go.Proofs.Ytdoglkjhmaiknaa
open Go.RowKit
set_option linter.unusedVariables false
set_option linter.unusedSimpArgs false

theorem eql8_run (x0 x1 x2 x3 x4 x5 x6 x7 y0 y1 y2 y3 y4 y5 y6 y7 : Int) (w : World) : (binOp .eql 72 (.agg #[.int .u8 x0, .int .u8 x1, .int .u8 x2, .int .u8 x3, .int .u8 x4, .int .u8 x5, .int .u8 x6, .int .u8 x7]) (.agg #[.int .u8 y0, .int .u8 y1, .int .u8 y2, .int .u8 y3, .int .u8 y4, .int .u8 y5, .int .u8 y6, .int .u8 y7])).run Try.prog w = .ok (.bool (decide ([x0, x1, x2, x3, x4, x5, x6, x7] = [y0, y1, y2, y3, y4, y5, y6, y7]))) w := by
  have EQ := eq8 x0 x1 x2 x3 x4 x5 x6 x7 y0 y1 y2 y3 y4 y5 y6 y7 9998 w
  generalize hX : (Value.agg #[.int .u8 x0, .int .u8 x1, .int .u8 x2, .int .u8 x3, .int .u8 x4, .int .u8 x5, .int .u8 x6, .int .u8 x7]) = X at EQ ⊢
  generalize hY : (Value.agg #[.int .u8 y0, .int .u8 y1, .int .u8 y2, .int .u8 y3, .int .u8 y4, .int .u8 y5, .int .u8 y6, .int .u8 y7]) = Y at EQ ⊢
  subst hX hY
  unfold binOp
  simp only [Op.equal]
  have EQ' : (Op.equalIn Op.maxDepth 72 (Value.agg #[.int .u8 x0, .int .u8 x1, .int .u8 x2, .int .u8 x3, .int .u8 x4, .int .u8 x5, .int .u8 x6, .int .u8 x7]) (Value.agg #[.int .u8 y0, .int .u8 y1, .int .u8 y2, .int .u8 y3, .int .u8 y4, .int .u8 y5, .int .u8 y6, .int .u8 y7])).run Try.prog w = _ := EQ
  simp only [Sem.run_bind, EQ', Result.andThen_ok, Sem.run_pure]
theorem egrd8_run (p q : Operand) (X Y : Array Value) (w : World) : (eqGuard .eql 72 p q (.agg X) (.agg Y)).run Try.prog w = .ok () w := by
  simp [eqGuard]
set_option maxRecDepth 20000 in
set_option maxHeartbeats 1000000 in
theorem clo1 (c : List Int × Nat) (y0 y1 y2 y3 y4 y5 y6 y7 : Int) (b : Nat) (w : World) (hb : w.heap[b]? = some (.cells #[.int .u8 y0, .int .u8 y1, .int .u8 y2, .int .u8 y3, .int .u8 y4, .int .u8 y5, .int .u8 y6, .int .u8 y7] 72 (0, 0))) (h8 : c.1.length = 8) :
    Calls Try.prog 31 #[.agg (wrow c).toArray, .pointer (some ⟨b, 0, none⟩)] w fun e w' => e = .returned (.bool (decide (c.1 = [y0, y1, y2, y3, y4, y5, y6, y7]))) ∧ Below w.heap.size w w' := by
  obtain ⟨D, a⟩ := c
  dsimp only at h8 ⊢
  obtain ⟨x0, x1, x2, x3, x4, x5, x6, x7, rfl⟩ := len8 h8
  rw [show (wrow ([x0, x1, x2, x3, x4, x5, x6, x7], a)).toArray = #[.int .u8 x0, .int .u8 x1, .int .u8 x2, .int .u8 x3, .int .u8 x4, .int .u8 x5, .int .u8 x6, .int .u8 x7, .int .i64 (a : Int)] from rfl]
  have hl := (Array.getElem?_eq_some_iff.1 hb).1
  have r0 : w.cell? ⟨b, 0, none⟩ = some (.int .u8 y0) := (bk_cell hb 0).trans rfl
  have r1 : w.cell? ⟨b, 1, none⟩ = some (.int .u8 y1) := (bk_cell hb 1).trans rfl
  have r2 : w.cell? ⟨b, 2, none⟩ = some (.int .u8 y2) := (bk_cell hb 2).trans rfl
  have r3 : w.cell? ⟨b, 3, none⟩ = some (.int .u8 y3) := (bk_cell hb 3).trans rfl
  have r4 : w.cell? ⟨b, 4, none⟩ = some (.int .u8 y4) := (bk_cell hb 4).trans rfl
  have r5 : w.cell? ⟨b, 5, none⟩ = some (.int .u8 y5) := (bk_cell hb 5).trans rfl
  have r6 : w.cell? ⟨b, 6, none⟩ = some (.int .u8 y6) := (bk_cell hb 6).trans rfl
  have r7 : w.cell? ⟨b, 7, none⟩ = some (.int .u8 y7) := (bk_cell hb 7).trans rfl
  have EQ := fun u : World => eql8_run x0 x1 x2 x3 x4 x5 x6 x7 y0 y1 y2 y3 y4 y5 y6 y7 u
  have EG := fun (p q : Operand) (u : World) => egrd8_run p q #[.int .u8 x0, .int .u8 x1, .int .u8 x2, .int .u8 x3, .int .u8 x4, .int .u8 x5, .int .u8 x6, .int .u8 x7] #[.int .u8 y0, .int .u8 y1, .int .u8 y2, .int .u8 y3, .int .u8 y4, .int .u8 y5, .int .u8 y6, .int .u8 y7] u
  generalize decide ([x0, x1, x2, x3, x4, x5, x6, x7] = [y0, y1, y2, y3, y4, y5, y6, y7]) = z at EQ ⊢
  clear hb h8
  go_enter Try.func31, Try.ntmps31
  go_wp2
  go_ret
  exact ⟨rfl, (Below.refl _ _).alloc (Nat.le_refl _) _⟩
set_option maxRecDepth 20000 in
set_option maxHeartbeats 1000000 in
theorem clo2 (c : List Int × Nat) (ad : Nat) (b : Nat) (w : World) (hb : w.heap[b]? = some (.cells #[.int .i64 (ad : Int)] 3 (0, 0))) (h8 : c.1.length = 8) :
    Calls Try.prog 33 #[.agg (wrow c).toArray, .pointer (some ⟨b, 0, none⟩)] w fun e w' => e = .returned (.bool (decide (c.2 = ad))) ∧ Below w.heap.size w w' := by
  obtain ⟨D, a⟩ := c
  dsimp only at h8 ⊢
  obtain ⟨x0, x1, x2, x3, x4, x5, x6, x7, rfl⟩ := len8 h8
  rw [show (wrow ([x0, x1, x2, x3, x4, x5, x6, x7], a)).toArray = #[.int .u8 x0, .int .u8 x1, .int .u8 x2, .int .u8 x3, .int .u8 x4, .int .u8 x5, .int .u8 x6, .int .u8 x7, .int .i64 (a : Int)] from rfl]
  have hl := (Array.getElem?_eq_some_iff.1 hb).1
  have r0 : w.cell? ⟨b, 0, none⟩ = some (.int .i64 (ad : Int)) := (bk_cell hb 0).trans rfl
  have hz : ((a : Int) == (ad : Int)) = decide (a = ad) := by
    by_cases e : a = ad
    · subst e; simp
    · rw [decide_eq_false e]; simp; omega
  generalize decide (a = ad) = z at hz ⊢
  clear hb h8
  go_enter Try.func33, Try.ntmps33
  go_wp2
  go_ret
  exact ⟨by first | rfl | simp [hz], (Below.refl _ _).alloc (Nat.le_refl _) _⟩
end Go.Proofs.Ytdoglkjhmaiknaa

namespace Go.Proofs.Ytdoglkjhmaiknaa
open Go.RowKit
set_option linter.unusedVariables false
set_option linter.unusedSimpArgs false

def answM (m : PX) (D : List Int) : PX := if wat m.ws D < m.ws.length then { m with va := updF m.va (m.ws.getD (wat m.ws D) default).2 true, ws := wdel m.ws (m.ws.getD (wat m.ws D) default).2 } else m
set_option maxRecDepth 20000 in
set_option maxHeartbeats 4000000 in
theorem answI (g base : Nat) (m : PX) (v : Value) (D : List Int) (i : Nat) (w : World) (h : PRep w g base m) (hg : base ≤ g) (hI : PXI i m) (hr : Row w .u8 v D) (hl : D.length ≤ 1048576) (hbase : base ≤ w.heap.size) :
    Calls Try.prog 26 #[.pointer (some ⟨g, 0, none⟩), v] w fun e w' => e = .returned (.tuple #[.bool (decide (D.length = 8 ∧ wat m.ws D < m.ws.length)), .int .i64 (if D.length ≠ 8 then 1 else 0)]) ∧ PDo g base w w' (if D.length ≠ 8 then m else answM m D) := by
  by_cases h8 : D.length = 8
  case neg =>
    rw [if_pos h8, if_pos h8, decide_eq_false (fun e => h8 e.1)]
    obtain ⟨ao, cp, rfl⟩ := hr.form
    have hne : ((D.length : Int) != 8) = true := by simp; omega
    have HH : Hid _ := h
    clear hr h h8
    generalize D.length = n at *
    go_enter Try.func26, Try.ntmps26
    go_wp2
    go_ret2
    exact ⟨rfl, HH.out, ChS.refl _ _ _ _⟩
  rw [if_neg (fun e => e h8), if_neg (fun e => e h8)]
  have hd : decide (D.length = 8 ∧ wat m.ws D < m.ws.length) = decide (wat m.ws D < m.ws.length) := by simp [h8]
  rw [hd]
  clear hd
  obtain ⟨x0, x1, x2, x3, x4, x5, x6, x7, rfl⟩ := len8 h8
  obtain ⟨b, off, cap, rfl, hb, hcap, hc⟩ := hr.full (by simp)
  have r0 := hc 0 (by simp)
  have r1 := hc 1 (by simp)
  have r2 := hc 2 (by simp)
  have r3 := hc 3 (by simp)
  have r4 := hc 4 (by simp)
  have r5 := hc 5 (by simp)
  have r6 := hc 6 (by simp)
  have r7 := hc 7 (by simp)
  dsimp only [List.getD, List.getElem?_cons_zero, List.getElem?_cons_succ, Option.getD, Nat.add_zero] at r0 r1 r2 r3 r4 r5 r6 r7
  obtain ⟨wv, hB, hO⟩ := h
  have dw := hB.cw
  have hglt := hB.lt
  obtain ⟨D8, eD⟩ : ∃ D8, D8 = [x0, x1, x2, x3, x4, x5, x6, x7] := ⟨_, rfl⟩
  obtain ⟨W1, eW1⟩ : ∃ W1, W1 = w.alloc (.cells #[.int .u8 x0, .int .u8 x1, .int .u8 x2, .int .u8 x3, .int .u8 x4, .int .u8 x5, .int .u8 x6, .int .u8 x7] 72) := ⟨_, rfl⟩
  have bW1 : Below w.heap.size w W1 := by rw [eW1]; exact (Below.refl _ _).alloc (Nat.le_refl _) _
  have kW1 : W1.heap[w.heap.size]? = some (.cells #[.int .u8 x0, .int .u8 x1, .int .u8 x2, .int .u8 x3, .int .u8 x4, .int .u8 x5, .int .u8 x6, .int .u8 x7] 72 (0, 0)) := by rw [eW1]; exact heap_alloc_new _ _
  have IX := idxI1 (.pointer (some ⟨w.heap.size, 0, none⟩)) wv m.ws (fun c => decide (c.1 = D8)) W1 (hO.below bW1).row hI.wl (fun c hc => (hI.wd c hc).1) (fun c hc u hu => by
    rw [eD]
    exact clo1 c x0 x1 x2 x3 x4 x5 x6 x7 w.heap.size u ((hu.block _ (Array.getElem?_eq_some_iff.1 kW1).1).trans kW1) (hI.wd c hc).1)
  have hsa : ∀ W : World, (Instr.arrayAt 72 (.slice (some ⟨b, off, none⟩) 8 cap)).run Try.prog W = .ok (.pointer (some ⟨b, off, none⟩)) W := fun W => by simp [Instr.arrayAt, run_underlying Try.underlying72]
  have hmf : ∀ (fn : Fn) (first cap : Array Value) (w : World), (Instr.makeFunc fn first cap).run Try.prog w = .ok (.func fn first cap) w := fun _ _ _ _ => rfl
  rw [← eD]
  have hl8 : D8.length = 8 := by rw [eD]; rfl
  rw [hl8]
  clear hl8
  by_cases hf : wat m.ws D8 < m.ws.length
  case neg =>
    have er : idxR m.ws (fun c => decide (c.1 = D8)) = -1 := by unfold idxR; exact if_neg hf
    rw [er, eW1] at IX
    have e2 : answM m D8 = m := by unfold answM; rw [if_neg hf]
    rw [decide_eq_false hf, e2]
    rw [eW1] at bW1
    have HH : Hid _ := And.intro IX (And.intro hB (And.intro hO bW1))
    obtain ⟨wa, wcp, ew⟩ := hO.form
    generalize (m.ws.map wrow).length = wn at ew
    clear IX hB hO bW1 kW1 er e2 hf hI hc hr eD eW1
    subst ew
    go_enter Try.func26, Try.ntmps26
    go_wp2_with fail
    go_at_call 30
    refine HH.out.1.mono ?_
    rintro e w2 ⟨rfl, b2⟩
    have H2 : Hid _ := And.intro (HH.out.2.2.2.trans (b2.mono HH.out.2.2.2.size)) True.intro
    clear b2
    go_wp2_with fail
    go_ret2
    exact ⟨rfl, ⟨_, HH.out.2.1.same (H2.out.1.block g HH.out.2.1.lt), HH.out.2.2.1.below H2.out.1⟩, ChS.of_below H2.out.1⟩
  case pos =>
  obtain ⟨k, ek⟩ : ∃ k, k = wat m.ws D8 := ⟨_, rfl⟩
  have er : idxR m.ws (fun c => decide (c.1 = D8)) = (k : Int) := by unfold idxR; rw [ek]; exact if_pos hf
  rw [er, eW1] at IX
  obtain ⟨ad, ead⟩ : ∃ ad, ad = (m.ws.getD k default).2 := ⟨_, rfl⟩
  have hkl : k < m.ws.length := by omega
  have hmem : m.ws.getD k default ∈ m.ws := getD_mem _ _ _ hkl
  have had : ad < 256 := by rw [ead]; exact (hI.wd _ hmem).2
  have h9 : (m.ws.getD k default).1.length = 8 := (hI.wd _ hmem).1
  have e2 : answM m D8 = { m with va := updF m.va ad true, ws := m.ws.filter (fun c => !decide (c.2 = ad)) } := by unfold answM; rw [if_pos hf, ← ek, ← ead]; rfl
  rw [decide_eq_true hf, e2]
  rw [eW1] at bW1
  have hw5 := hI.wl
  have hbnd : (k : Int) < (m.ws.length : Int) := by omega
  obtain ⟨wa, wcp, ew⟩ := hO.form
  rw [List.length_map] at ew
  obtain ⟨gw, ow, cw, ewa, hcw⟩ : ∃ gw ow cw, wv = .slice (some ⟨gw, ow, none⟩) m.ws.length cw ∧ w.cell? ⟨gw, ow + k * 9 + 8, none⟩ = some (.int .i64 (ad : Int)) := by
    rcases hO with ⟨_, h0⟩ | ⟨gw, ow, cw, cur, e, q1, q2, q3, q4, q5, q6⟩
    · rw [List.map_eq_nil_iff] at h0; rw [h0] at hkl; simp at hkl
    · rw [List.length_map] at e
      refine ⟨gw, ow, cw, e, ?_⟩
      rw [bk_cell q2]
      have t := q6 k 8 (by rw [List.length_map]; exact hkl) (by omega)
      rw [map_at wrow m.ws default k hkl] at t
      obtain ⟨y0, y1, y2, y3, y4, y5, y6, y7, ec⟩ := wrow9 h9
      rw [ec, ← ead] at t
      exact t
  have hgw : gw < w.heap.size := World.block_lt_of_cell? _ _ hcw
  have CD : ∀ (u : World) (q : Nat), OffR 74 9 u base wv (m.ws.map wrow) → u.heap[q]? = some (.cells #[.int .i64 (ad : Int)] 3 (0, 0)) → base ≤ q → _ := fun u q ho hq hbq => delI (.pointer (some ⟨q, 0, none⟩)) wv m.ws (fun c => decide (c.2 = ad)) base u ho hI.wl (fun c hc => (hI.wd c hc).1) (fun c hc u' hu => clo2 c ad q u' (hu.bk hq (Or.inr ⟨fun e => e, by decide⟩)) (hI.wd c hc).1)
  have HH : Hid _ := And.intro IX (And.intro hB (And.intro hO (And.intro bW1 CD)))
  generalize m.ws.length = wn at *
  clear IX hB hO bW1 kW1 er e2 hf hc hr eD eW1 ek ead hkl hmem h9 ew CD hI
  subst ewa
  go_enter Try.func26, Try.ntmps26
  go_wp2_with fail
  go_at_call 30
  refine HH.out.1.mono ?_
  rintro e w2 ⟨rfl, b2⟩
  have b02 := HH.out.2.2.2.1.trans (b2.mono HH.out.2.2.2.1.size)
  have B2 := HH.out.2.1.same (b02.block g hglt)
  have d2 : w2.cell? ⟨g, 770, none⟩ = _ := (b02.cell (p := ⟨g, 770, none⟩) hglt).trans dw
  have k2 : w2.cell? ⟨gw, ow + k * 9 + 8, none⟩ = _ := (b02.cell (p := ⟨gw, ow + k * 9 + 8, none⟩) hgw).trans hcw
  have hg2 : g < w2.heap.size := Nat.lt_of_lt_of_le hglt b02.size
  have hgw2 : gw < w2.heap.size := Nat.lt_of_lt_of_le hgw b02.size
  have va2 := (B2.ck ad had).2.2
  have fa2 := B2.free (2 + ad * 3 + 2)
  have f72 := B2.free 770
  have H2 : Hid _ := And.intro b02 B2
  have hadI : (ad : Int) < 256 := by omega
  clear b2 b02 B2 r0 r1 r2 r3 r4 r5 r6 r7 dw hcw
  go_wp2_with fail
  go_region
  obtain ⟨W3, eW3⟩ : ∃ W3, W3 = ((w2.setCell ⟨g, 2 + ad * 3 + 2, none⟩ (.bool true)).alloc (.cells #[.int .i64 (ad : Int)] 3)).drew := ⟨_, rfl⟩
  have B3 := H2.out.2.setVa ad had true
  have hsz : (w2.setCell ⟨g, 2 + ad * 3 + 2, none⟩ (.bool true)).heap.size = w2.heap.size := setCell_size _ _ _
  have b3 : Below w2.heap.size (w2.setCell ⟨g, 2 + ad * 3 + 2, none⟩ (.bool true)) W3 := by
    rw [eW3]
    have t : Below (w2.setCell ⟨g, 2 + ad * 3 + 2, none⟩ (.bool true)).heap.size (w2.setCell ⟨g, 2 + ad * 3 + 2, none⟩ (.bool true)) _ := below_drewN ((Below.refl _ _).alloc (Nat.le_refl _) (.cells #[.int .i64 (ad : Int)] 3)) 1
    rw [hsz] at t
    exact t
  have k3 : W3.heap[w2.heap.size]? = some (.cells #[.int .i64 (ad : Int)] 3 (0, 0)) := by
    rw [eW3]
    have t := heap_alloc_new (w2.setCell ⟨g, 2 + ad * 3 + 2, none⟩ (.bool true)) (.cells #[.int .i64 (ad : Int)] 3)
    rw [hsz] at t
    exact t
  have B3' := B3.same (b3.block g hg2)
  have o2 := HH.out.2.2.1.below H2.out.1
  have O3 := (H2.out.2.off (i := 2 + ad * 3 + 2) (u := .bool true) o2).below (by rw [hsz]; exact b3)
  have CL := HH.out.2.2.2.2 W3 w2.heap.size O3 k3 (Nat.le_trans hbase H2.out.1.size)
  have C3 : ChS (fun k => k = g) 74 base w W3 := ((ChS.of_below H2.out.1).setG hg _ _).trans (ChS.of_below (by rw [hsz]; exact b3))
  have H3 : Hid _ := And.intro CL (And.intro B3' C3)
  rw [eW3] at H3
  clear B3 b3 k3 B3' o2 O3 CL C3 eW3 hsz
  go_wp2_with fail
  go_at_call 32
  refine H3.out.1.mono ?_
  rintro e w4 ⟨v4, rfl, o4, c4⟩
  have B4 := H3.out.2.1.chg c4 (fun e => e)
  obtain ⟨a4, p4, e4⟩ := o4.form
  obtain ⟨n4, en4⟩ : ∃ n4, n4 = (List.map wrow (List.filter (fun c => !decide (c.2 = ad)) m.ws)).length := ⟨_, rfl⟩
  rw [← en4] at e4
  have d4 := B4.cw
  have f4 := B4.free 770
  have H4 : Hid _ := And.intro B4 (And.intro o4 (And.intro c4 e4))
  clear B4 o4 c4 en4
  subst e4
  go_wp2_with fail
  go_ret2
  exact ⟨rfl, ⟨_, H4.out.1.setW _ _, H4.out.1.off H4.out.2.1⟩, (H3.out.2.2.trans (H4.out.2.2.1.mono (fun k hk => hk.elim))).setG hg _ _⟩
end Go.Proofs.Ytdoglkjhmaiknaa

namespace Go.Proofs.Ytdoglkjhmaiknaa
open Go.RowKit
set_option linter.unusedVariables false
set_option linter.unusedSimpArgs false

theorem mayX (a b : Int) (t : Bool) (w : World) (ha : 0 ≤ a ∧ a ≤ 600000) (hb : 0 ≤ b ∧ b ≤ 600000) :
    Calls Try.prog 29 #[.agg #[.int .i64 a, .int .i64 b, .bool t]] w fun e w' => e = .returned (.int .i64 (if t then 4611686018427387903 else max 0 (3 * a - b))) ∧ w' = w.alloc (.cells #[.int .i64 a, .int .i64 b, .bool t] 56) := by
  cases t
  · go_enter Try.func29, Try.ntmps29
    go_wp2_with fail
    go_ret
    exact ⟨rfl, rfl⟩
  · go_enter Try.func29, Try.ntmps29
    go_wp2_with fail
    go_ret
    exact ⟨rfl, rfl⟩
/-- What settle leaves: the observation's cells; all else as it was. -/
structure SetQ (w w' : World) (qb : Nat) (cs : Array Value) : Prop where
  os : w'.os = w.os
  tape : w'.tape = w.tape
  output : w'.output = w.output
  size : w.heap.size ≤ w'.heap.size
  bk : w'.heap[qb]? = some (.cells cs 32 (0, 0))
  other : ∀ k, k < w.heap.size → k ≠ qb → w'.heap[k]? = w.heap[k]?
theorem settle_end {w W : World} {qb : Nat} {c z1 z2 a b : Int} {z3 z4 t : Bool} (hW : W.heap[qb]? = some (.cells #[.int .i64 c, .int .i64 z1, .int .i64 z2, .bool z3, .bool z4] 32 (0, 0))) 
    (hs : Below w.heap.size w W) :
    SetQ w (((W.setCell ⟨qb, 1, none⟩ (.int .i64 a)).setCell ⟨qb, 3, none⟩ (.bool t)).setCell ⟨qb, 2, none⟩ (.int .i64 b)) qb #[.int .i64 c, .int .i64 a, .int .i64 b, .bool t, .bool z4] :=
  ⟨hs.os, hs.tape, hs.output, by rw [setCell_size, setCell_size, setCell_size]; exact hs.size, (bk_set (bk_set (bk_set hW 1 _) 3 _) 2 _).trans rfl, fun k h1 h2 => ((bk_other h2 _ _).trans ((bk_other h2 _ _).trans (bk_other h2 _ _))).trans (hs.block k h1)⟩
set_option maxRecDepth 20000 in
set_option maxHeartbeats 4000000 in
theorem settleI (g qb : Nat) (m : PX) (wv : Value) (i : Nat) (c : Int) (z1 z2 : Int) (z3 z4 : Bool) (w : World) (hB : PB w g m wv) (hI : PXI i m) (hi : i ≤ 300) (hq : w.heap[qb]? = some (.cells #[.int .i64 c, .int .i64 z1, .int .i64 z2, .bool z3, .bool z4] 32 (0, 0))) :
    CallsD Try.prog 22 #[.pointer (some ⟨g, 0, none⟩), .pointer (some ⟨qb, 0, none⟩)] .returning w fun e u' w' => u' = .returning ∧ (e = .returned (.tuple #[]) ∧ SetQ w w' qb #[.int .i64 c, .int .i64 (m.ad : Int), .int .i64 m.may, .bool (m.va m.ad), .bool z4]) := by
  have ha := hI.ad
  obtain ⟨k1, k2, k3⟩ := hB.ck m.ad ha
  have cm := hI.cm m.ad
  have st := hI.st m.ad
  have d1 := hB.c1
  have hgl := hB.lt
  have hql := (Array.getElem?_eq_some_iff.1 hq).1
  have q1 : w.cell? ⟨qb, 1, none⟩ = some (.int .i64 z1) := (bk_cell hq 1).trans rfl
  have q2 : w.cell? ⟨qb, 2, none⟩ = some (.int .i64 z2) := (bk_cell hq 2).trans rfl
  have q3 : w.cell? ⟨qb, 3, none⟩ = some (.bool z3) := (bk_cell hq 3).trans rfl
  have e1 := bk_free hq 1
  have e2 := bk_free hq 2
  have e3 := bk_free hq 3
  have U : ∀ W : World, W.heap[g]? = w.heap[g]? → Calls Try.prog 28 #[.pointer (some ⟨g, 0, none⟩)] W fun e w' => e = .returned (.pointer (some ⟨g, 2 + m.ad * 3, none⟩)) ∧ ∃ n, w' = W.drewN n := fun W hW => inUseI g m wv W (hB.same hW) ha
  have M : ∀ W : World, Calls Try.prog 29 #[.agg #[.int .i64 (m.cm m.ad), .int .i64 (m.st m.ad), .bool (m.va m.ad)]] W fun e w' => e = .returned (.int .i64 m.may) ∧ w' = W.alloc (.cells #[.int .i64 (m.cm m.ad), .int .i64 (m.st m.ad), .bool (m.va m.ad)] 56) := fun W => mayX _ _ _ W (by omega) (by omega)
  have hne : g ≠ qb := fun e => by
    subst e
    obtain ⟨cs, b⟩ := hB.bk
    rw [b] at hq
    have e2 := Option.some.inj hq
    injection e2 with _ e3
    exact absurd e3 (by decide)
  obtain ⟨ad, ead⟩ : ∃ ad, ad = m.ad := ⟨_, rfl⟩
  obtain ⟨x, ex⟩ : ∃ x, x = m.cm m.ad := ⟨_, rfl⟩
  obtain ⟨y, ey⟩ : ∃ x, x = m.st m.ad := ⟨_, rfl⟩
  obtain ⟨t, et⟩ : ∃ x, x = m.va m.ad := ⟨_, rfl⟩
  obtain ⟨mm, em⟩ : ∃ x, x = m.may := ⟨_, rfl⟩
  rw [← ex, ← ey, ← et, ← em] at M
  rw [← ead] at U
  rw [← ex, ← ead] at k1
  rw [← ey, ← ead] at k2
  rw [← et, ← ead] at k3
  rw [← ead] at d1
  rw [← em, ← et, ← ead]
  have nb : ∀ (n b o : Nat), b < w.heap.size → ((w.drewN n).alloc (.cells #[.int .i64 x, .int .i64 y, .bool t] 56)).cell? ⟨b, o, none⟩ = w.cell? ⟨b, o, none⟩ := fun n b o hb => World.cell?_of_block (a := ⟨b, o, none⟩) (heap_alloc_old (w.drewN n) _ hb)
  have nf : ∀ (n b o : Nat), b < w.heap.size → ((w.drewN n).alloc (.cells #[.int .i64 x, .int .i64 y, .bool t] 56)).frozen? ⟨b, o, none⟩ = w.frozen? ⟨b, o, none⟩ := fun n b o hb => World.frozen?_of_block (a := ⟨b, o, none⟩) (heap_alloc_old (w.drewN n) _ hb)
  have n1 := fun n => (nb n qb 1 hql).trans q1
  have n2 := fun n => (nb n qb 2 hql).trans q2
  have n3 := fun n => (nb n qb 3 hql).trans q3
  have n4 := fun n => (nf n qb 1 hql).trans e1
  have n5 := fun n => (nf n qb 2 hql).trans e2
  have n6 := fun n => (nf n qb 3 hql).trans e3
  have n7 := fun n => (nb n g 1 hgl).trans d1
  have n8 := fun n => (nb n g _ hgl).trans k3
  clear nb nf
  have HU : Hid _ := And.intro U (And.intro M (And.intro hB hq))
  clear U M hB hq hI ead ex ey et em cm st ha
  go_enter_d Try.func22, Try.ntmps22
  go_wp2_with fail
  go_region_law (first
    | (go_simp; go_at_call 29; refine (HU.out.2.1 _).mono ?_; rintro e wa ⟨rfl, rfl⟩)
    | (go_simp; go_at_call 28; refine (HU.out.1 _ (by first | rfl | exact heap_alloc_old (w.drewN _) _ hgl)).mono ?_; rintro e wa ⟨rfl, qn, rfl⟩))
  all_goals
    go_end0
    exact ⟨rfl, settle_end ((heap_alloc_old (w.drewN _) _ hql).trans HU.out.2.2.2) (below_drewN (((below_drewN (Below.refl _ _) _).alloc (Nat.le_refl _) _)) 0)⟩
end Go.Proofs.Ytdoglkjhmaiknaa

namespace Go.Proofs.Ytdoglkjhmaiknaa
open Go.RowKit
set_option linter.unusedVariables false
set_option linter.unusedSimpArgs false

/-- The world in which an operation is done: the operation, the observation. -/
def opW (w : World) (o : SPathOp) (dv : Value) : World := (w.alloc (.cells #[.int .i64 o.f0, .int .i64 o.f1, .int .i64 o.f2, dv] 34)).alloc (.cells #[.int .i64 0, .int .i64 0, .int .i64 0, .bool false, .bool false] 32)
theorem opW_below (w : World) (o : SPathOp) (dv : Value) : Below w.heap.size w (opW w o dv) := ((Below.refl _ _).alloc (Nat.le_refl _) _).alloc (by simp) _
theorem opW_bk (w : World) (o : SPathOp) (dv : Value) : (opW w o dv).heap[w.heap.size]? = some (.cells #[.int .i64 o.f0, .int .i64 o.f1, .int .i64 o.f2, dv] 34 (0, 0)) ∧ (opW w o dv).heap[w.heap.size + 1]? = some (.cells #[.int .i64 0, .int .i64 0, .int .i64 0, .bool false, .bool false] 32 (0, 0)) := bk_new2 w _ _
theorem PRep.below {w w' : World} {g base : Nat} {m : PX} (h : PRep w g base m) (hb : Below w.heap.size w w') : PRep w' g base m := by
  obtain ⟨wv, B, O⟩ := h
  exact ⟨wv, B.same (hb.block g B.lt), O.below hb⟩
theorem run_fin {w W w3 : World} {g base q : Nat} {m' : PX} {c0 cs : Array Value} (hP : PRep W g base m') (hC : ChS (fun k => k = g) 74 base w W) (hq : W.heap[q]? = some (.cells c0 32 (0, 0))) (hqn : w.heap.size ≤ q) (SQ : SetQ W w3 q cs) (hg : g < w.heap.size) : PDo g base w w3 m' := by
  obtain ⟨wv, B, O⟩ := hP
  refine ⟨⟨wv, B.same (SQ.other g B.lt (by omega)), ?_⟩, ⟨SQ.os.trans hC.os, SQ.tape.trans hC.tape, SQ.output.trans hC.output, Nat.le_trans hC.size SQ.size, fun k hk hs => (SQ.other k (Nat.lt_of_lt_of_le hk hC.size) (by omega)).trans (hC.block k hk hs)⟩⟩
  rcases O with h | ⟨g5, o5, cap, cur, e, h1, h2, r⟩
  · exact Or.inl h
  · refine Or.inr ⟨g5, o5, cap, cur, e, h1, (SQ.other g5 (Array.getElem?_eq_some_iff.1 h2).1 (fun e => ?_)).trans h2, r⟩
    subst e
    rw [hq] at h2
    have e2 := Option.some.inj h2
    injection e2 with _ e3
    exact absurd e3 (by decide)
/-- Amid an operation: what holds of the paths and of the observation. -/
structure ObW (g base q : Nat) (w W : World) (m' : PX) (c0 : Array Value) : Prop where
  P : PRep W g base m'
  C : ChS (fun k => k = g) 74 base w W
  hq : W.heap[q]? = some (.cells c0 32 (0, 0))
theorem ObW.set {g base q : Nat} {w W : World} {m' : PX} {c0 : Array Value} (h : ObW g base q w W m' c0) (hqn : w.heap.size ≤ q) (hg : g < w.heap.size) (o : Nat) (v : Value) : ObW g base q w (W.setCell ⟨q, o, none⟩ v) m' (c0.setIfInBounds o v) := by
  obtain ⟨wv, B, O⟩ := h.P
  exact ⟨⟨wv, B.same (bk_other (by omega) o v), O.set h.hq (by decide)⟩, h.C.setN hqn o v, bk_set h.hq o v⟩
theorem infoPObs : (Try.prog.info? 32).map (·.size) = some 5 := by kernel_rfl
/-- What one operation answers and leaves. -/
def RunP (g base : Nat) (w w' : World) (s : PX × Int × Bool) : Prop := PDo g base w w' s.1

set_option maxRecDepth 20000 in
set_option maxHeartbeats 4000000 in
theorem run_bad (g base : Nat) (m : PX) (o : SPathOp) (dv : Value) (i : Nat) (w : World) (h : PRep w g base m) (hg : base ≤ g) (hI : PXI i m) (hi : i < 300) (hr : Row w .u8 dv o.f3) (hl : o.f3.length ≤ 1048576) (hbase : base ≤ w.heap.size) (hby : ∀ x ∈ o.f3, 0 ≤ x ∧ x < 256)
    (hc : o.f2 < 0 ∨ 255 < o.f2 ∨ o.f1 < 0 ∨ 2000 < o.f1) :
    Calls Try.prog 18 #[.pointer (some ⟨g, 0, none⟩), .agg #[.int .i64 o.f0, .int .i64 o.f1, .int .i64 o.f2, dv]] w fun e w' => e = .returned (.agg #[.int .i64 (pobs (pstep m o)).f0, .int .i64 (pobs (pstep m o)).f1, .int .i64 (pobs (pstep m o)).f2, .bool (pobs (pstep m o)).f3, .bool (pobs (pstep m o)).f4]) ∧ PDo g base w w' (pstep m o).1 := by
  have es : pstep m o = (m, 1, false) := by unfold pstep; rw [if_pos hc]
  rw [es]
  have hgl : g < w.heap.size := by obtain ⟨wv, B, _⟩ := h; exact B.lt
  obtain ⟨ao, cp, ev⟩ := hr.form
  generalize o.f3.length = dn at ev
  subst ev
  obtain ⟨k, n, a, D⟩ := o
  dsimp only at *
  have HH : Hid _ := And.intro h (And.intro hI hr)
  clear h hI hr es hby hl
  go_enter_defers Try.func18, Try.ntmps18
  by_cases ha : a < 0
  · clear hc
    go_wp2_with fail
    refine leaves_cons (f := 22) (args := #[.pointer (some ⟨g, 0, none⟩), .pointer (some ⟨w.heap.size + 1, 0, none⟩)]) (by simp) (by simp [go_sem]) ?_
    have hb : Below w.heap.size w ((w.alloc (.cells #[.int .i64 k, .int .i64 n, .int .i64 a, .slice ao dn cp] 34)).alloc (.cells #[.int .i64 1, .int .i64 0, .int .i64 0, .bool false, .bool false] 32)) := ((Below.refl _ _).alloc (Nat.le_refl _) _).alloc (by simp) _
    have P := HH.out.1.below hb
    have hq := (bk_new2 w (.cells #[.int .i64 k, .int .i64 n, .int .i64 a, .slice ao dn cp] 34) (.cells #[.int .i64 1, .int .i64 0, .int .i64 0, .bool false, .bool false] 32)).2
    obtain ⟨wv, B, O⟩ := id P
    refine (settleI g (w.heap.size + 1) m wv i 1 0 0 false false _ B HH.out.2.1 (by omega) hq).mono ?_
    rintro e u' w3 ⟨rfl, rfl, SQ⟩
    exact ⟨.agg #[.int .i64 1, .int .i64 (m.ad : Int), .int .i64 m.may, .bool (m.va m.ad), .bool false], results_cell_row (t := 32) rfl _ _ (w.heap.size + 1) _ (fr := (0, 0)) _ rfl SQ.bk Try.underlying32 rfl infoPObs, rfl, run_fin P (ChS.of_below hb) hq (by omega) SQ hgl⟩
  by_cases ha2 : 255 < a
  · clear hc
    go_wp2_with fail
    refine leaves_cons (f := 22) (args := #[.pointer (some ⟨g, 0, none⟩), .pointer (some ⟨w.heap.size + 1, 0, none⟩)]) (by simp) (by simp [go_sem]) ?_
    have hb : Below w.heap.size w ((w.alloc (.cells #[.int .i64 k, .int .i64 n, .int .i64 a, .slice ao dn cp] 34)).alloc (.cells #[.int .i64 1, .int .i64 0, .int .i64 0, .bool false, .bool false] 32)) := ((Below.refl _ _).alloc (Nat.le_refl _) _).alloc (by simp) _
    have P := HH.out.1.below hb
    have hq := (bk_new2 w (.cells #[.int .i64 k, .int .i64 n, .int .i64 a, .slice ao dn cp] 34) (.cells #[.int .i64 1, .int .i64 0, .int .i64 0, .bool false, .bool false] 32)).2
    obtain ⟨wv, B, O⟩ := id P
    refine (settleI g (w.heap.size + 1) m wv i 1 0 0 false false _ B HH.out.2.1 (by omega) hq).mono ?_
    rintro e u' w3 ⟨rfl, rfl, SQ⟩
    exact ⟨.agg #[.int .i64 1, .int .i64 (m.ad : Int), .int .i64 m.may, .bool (m.va m.ad), .bool false], results_cell_row (t := 32) rfl _ _ (w.heap.size + 1) _ (fr := (0, 0)) _ rfl SQ.bk Try.underlying32 rfl infoPObs, rfl, run_fin P (ChS.of_below hb) hq (by omega) SQ hgl⟩
  by_cases hn : n < 0
  · clear hc
    go_wp2_with fail
    refine leaves_cons (f := 22) (args := #[.pointer (some ⟨g, 0, none⟩), .pointer (some ⟨w.heap.size + 1, 0, none⟩)]) (by simp) (by simp [go_sem]) ?_
    have hb : Below w.heap.size w ((w.alloc (.cells #[.int .i64 k, .int .i64 n, .int .i64 a, .slice ao dn cp] 34)).alloc (.cells #[.int .i64 1, .int .i64 0, .int .i64 0, .bool false, .bool false] 32)) := ((Below.refl _ _).alloc (Nat.le_refl _) _).alloc (by simp) _
    have P := HH.out.1.below hb
    have hq := (bk_new2 w (.cells #[.int .i64 k, .int .i64 n, .int .i64 a, .slice ao dn cp] 34) (.cells #[.int .i64 1, .int .i64 0, .int .i64 0, .bool false, .bool false] 32)).2
    obtain ⟨wv, B, O⟩ := id P
    refine (settleI g (w.heap.size + 1) m wv i 1 0 0 false false _ B HH.out.2.1 (by omega) hq).mono ?_
    rintro e u' w3 ⟨rfl, rfl, SQ⟩
    exact ⟨.agg #[.int .i64 1, .int .i64 (m.ad : Int), .int .i64 m.may, .bool (m.va m.ad), .bool false], results_cell_row (t := 32) rfl _ _ (w.heap.size + 1) _ (fr := (0, 0)) _ rfl SQ.bk Try.underlying32 rfl infoPObs, rfl, run_fin P (ChS.of_below hb) hq (by omega) SQ hgl⟩
  have hn2 : 2000 < n := by omega
  clear hc
  · go_wp2_with fail
    refine leaves_cons (f := 22) (args := #[.pointer (some ⟨g, 0, none⟩), .pointer (some ⟨w.heap.size + 1, 0, none⟩)]) (by simp) (by simp [go_sem]) ?_
    have hb : Below w.heap.size w ((w.alloc (.cells #[.int .i64 k, .int .i64 n, .int .i64 a, .slice ao dn cp] 34)).alloc (.cells #[.int .i64 1, .int .i64 0, .int .i64 0, .bool false, .bool false] 32)) := ((Below.refl _ _).alloc (Nat.le_refl _) _).alloc (by simp) _
    have P := HH.out.1.below hb
    have hq := (bk_new2 w (.cells #[.int .i64 k, .int .i64 n, .int .i64 a, .slice ao dn cp] 34) (.cells #[.int .i64 1, .int .i64 0, .int .i64 0, .bool false, .bool false] 32)).2
    obtain ⟨wv, B, O⟩ := id P
    refine (settleI g (w.heap.size + 1) m wv i 1 0 0 false false _ B HH.out.2.1 (by omega) hq).mono ?_
    rintro e u' w3 ⟨rfl, rfl, SQ⟩
    exact ⟨.agg #[.int .i64 1, .int .i64 (m.ad : Int), .int .i64 m.may, .bool (m.va m.ad), .bool false], results_cell_row (t := 32) rfl _ _ (w.heap.size + 1) _ (fr := (0, 0)) _ rfl SQ.bk Try.underlying32 rfl infoPObs, rfl, run_fin P (ChS.of_below hb) hq (by omega) SQ hgl⟩

set_option maxRecDepth 20000 in
set_option maxHeartbeats 4000000 in
theorem run_came (g base : Nat) (m : PX) (o : SPathOp) (dv : Value) (i : Nat) (w : World) (h : PRep w g base m) (hg : base ≤ g) (hI : PXI i m) (hi : i < 300) (hr : Row w .u8 dv o.f3) (hl : o.f3.length ≤ 1048576) (hbase : base ≤ w.heap.size) (hby : ∀ x ∈ o.f3, 0 ≤ x ∧ x < 256)
    (hc : ¬ (o.f2 < 0 ∨ 255 < o.f2 ∨ o.f1 < 0 ∨ 2000 < o.f1)) (hk : o.f0 = 1) :
    Calls Try.prog 18 #[.pointer (some ⟨g, 0, none⟩), .agg #[.int .i64 o.f0, .int .i64 o.f1, .int .i64 o.f2, dv]] w fun e w' => e = .returned (.agg #[.int .i64 (pobs (pstep m o)).f0, .int .i64 (pobs (pstep m o)).f1, .int .i64 (pobs (pstep m o)).f2, .bool (pobs (pstep m o)).f3, .bool (pobs (pstep m o)).f4]) ∧ PDo g base w w' (pstep m o).1 := by
  obtain ⟨k, n, a, D⟩ := o
  dsimp only at *
  have hgl : g < w.heap.size := by obtain ⟨wv, B, _⟩ := h; exact B.lt
  obtain ⟨A, rfl⟩ : ∃ A : Nat, a = (A : Int) := ⟨a.toNat, by omega⟩
  have hA : A < 256 := by omega
  have hn : 0 ≤ n ∧ n ≤ 2000 := by omega
  subst hk
  obtain ⟨m', em⟩ : ∃ m', m' = if m.srv = false ∧ (A : Int) ≠ m.ad then m else { m with ad := A, cm := updF m.cm A (m.cm A + n) } := ⟨_, rfl⟩
  obtain ⟨cd, ecd⟩ : ∃ cd : Int, cd = if m.srv = false ∧ (A : Int) ≠ m.ad then 7 else 0 := ⟨_, rfl⟩
  have es : pstep m ⟨1, n, (A : Int), D⟩ = (m', cd, false) := by
    rw [em, ecd]
    unfold pstep
    dsimp only
    rw [if_neg hc]
    rw [if_pos rfl]
    split <;> rfl
  have hI' : PXI (i + 1) m' := by have t := hI.step ⟨1, n, (A : Int), D⟩ hby; rw [es] at t; exact t
  rw [es]
  have B1 := opW_below w ⟨1, n, (A : Int), D⟩ dv
  have K1 := opW_bk w ⟨1, n, (A : Int), D⟩ dv
  have P1 := h.below B1
  have CL := hearI g base m A n i _ P1 hg hI (by omega) hA hn
  rw [← em, ← ecd] at CL
  unfold opW at B1 K1 P1 CL
  dsimp only at B1 K1 P1 CL
  have h1 : ¬ (A : Int) < 0 := by omega
  have h2 : ¬ (256 : Int) ≤ (A : Int) := by omega
  have h3 : ¬ n < 0 := by omega
  have h4 : ¬ 2000 < n := by omega
  have hsz : w.heap.size ≤ w.heap.size + 1 := by omega
  have HH : Hid _ := And.intro B1 (And.intro K1 (And.intro P1 (And.intro hI' CL)))
  obtain ⟨ao, cp, ev⟩ := hr.form
  generalize D.length = dn at ev
  clear B1 K1 P1 h hI hI' hr es hby hl hc hn CL em ecd
  subst ev
  go_enter_defers Try.func18, Try.ntmps18
  go_wp2_with fail
  go_at_call 23
  refine HH.out.2.2.2.2.mono ?_
  rintro e w2 ⟨rfl, P2, C2⟩
  have hq2 := C2.bk HH.out.2.1.2 (Or.inr ⟨fun e => by omega, by decide⟩)
  have y0 : w2.cell? ⟨w.heap.size + 1, 0, none⟩ = some (.int .i64 0) := (bk_cell hq2 0).trans rfl
  have f0 := bk_free hq2 0
  have y1 : w2.cell? ⟨w.heap.size + 1, 1, none⟩ = some (.int .i64 0) := (bk_cell hq2 1).trans rfl
  have f1 := bk_free hq2 1
  have y2 : w2.cell? ⟨w.heap.size + 1, 2, none⟩ = some (.int .i64 0) := (bk_cell hq2 2).trans rfl
  have f2 := bk_free hq2 2
  have y3 : w2.cell? ⟨w.heap.size + 1, 3, none⟩ = some (.bool false) := (bk_cell hq2 3).trans rfl
  have f3 := bk_free hq2 3
  have y4 : w2.cell? ⟨w.heap.size + 1, 4, none⟩ = some (.bool false) := (bk_cell hq2 4).trans rfl
  have f4 := bk_free hq2 4
  have H2 : Hid _ := And.intro P2 (And.intro C2 hq2)
  clear P2 C2 hq2
  go_wp2_with fail
  have T0 : ObW g base (w.heap.size + 1) w w2 m' _ := ⟨H2.out.1, (ChS.of_below HH.out.1).trans H2.out.2.1, H2.out.2.2⟩
  have T := ((((((T0).set hsz hgl 0 (.int .i64 cd)).set hsz hgl 0 (.int .i64 cd)).set hsz hgl 1 (.int .i64 0)).set hsz hgl 2 (.int .i64 0)).set hsz hgl 3 (.bool false)).set hsz hgl 4 (.bool false)
  refine leaves_cons (f := 22) (args := #[.pointer (some ⟨g, 0, none⟩), .pointer (some ⟨w.heap.size + 1, 0, none⟩)]) (by simp) (by simp [go_sem]) ?_
  obtain ⟨wv, B, O⟩ := id T.P
  refine (settleI g (w.heap.size + 1) m' wv (i + 1) cd 0 0 false false _ B HH.out.2.2.2.1 (by omega) (T.hq.trans rfl)).mono ?_
  rintro e u' w3 ⟨rfl, rfl, SQ⟩
  exact ⟨.agg #[.int .i64 cd, .int .i64 (m'.ad : Int), .int .i64 m'.may, .bool (m'.va m'.ad), .bool false], results_cell_row (t := 32) rfl _ _ (w.heap.size + 1) _ (fr := (0, 0)) _ rfl SQ.bk Try.underlying32 rfl infoPObs, rfl, run_fin T.P T.C T.hq hsz SQ hgl⟩
set_option maxRecDepth 20000 in
set_option maxHeartbeats 4000000 in
theorem run_send (g base : Nat) (m : PX) (o : SPathOp) (dv : Value) (i : Nat) (w : World) (h : PRep w g base m) (hg : base ≤ g) (hI : PXI i m) (hi : i < 300) (hr : Row w .u8 dv o.f3) (hl : o.f3.length ≤ 1048576) (hbase : base ≤ w.heap.size) (hby : ∀ x ∈ o.f3, 0 ≤ x ∧ x < 256)
    (hc : ¬ (o.f2 < 0 ∨ 255 < o.f2 ∨ o.f1 < 0 ∨ 2000 < o.f1)) (hk : o.f0 = 2) :
    Calls Try.prog 18 #[.pointer (some ⟨g, 0, none⟩), .agg #[.int .i64 o.f0, .int .i64 o.f1, .int .i64 o.f2, dv]] w fun e w' => e = .returned (.agg #[.int .i64 (pobs (pstep m o)).f0, .int .i64 (pobs (pstep m o)).f1, .int .i64 (pobs (pstep m o)).f2, .bool (pobs (pstep m o)).f3, .bool (pobs (pstep m o)).f4]) ∧ PDo g base w w' (pstep m o).1 := by
  obtain ⟨k, n, a, D⟩ := o
  dsimp only at *
  have hgl : g < w.heap.size := by obtain ⟨wv, B, _⟩ := h; exact B.lt
  obtain ⟨A, rfl⟩ : ∃ A : Nat, a = (A : Int) := ⟨a.toNat, by omega⟩
  have hA : A < 256 := by omega
  have hn : 0 ≤ n ∧ n ≤ 2000 := by omega
  subst hk
  obtain ⟨m', em⟩ : ∃ m', m' = if m.may < n then m else { m with st := updF m.st m.ad (m.st m.ad + n) } := ⟨_, rfl⟩
  obtain ⟨cd, ecd⟩ : ∃ cd : Int, cd = if m.may < n then 8 else 0 := ⟨_, rfl⟩
  have es : pstep m ⟨2, n, (A : Int), D⟩ = (m', cd, false) := by
    rw [em, ecd]
    unfold pstep
    dsimp only
    rw [if_neg hc]
    rw [if_neg (by omega), if_pos rfl]
    split <;> rfl
  have hI' : PXI (i + 1) m' := by have t := hI.step ⟨2, n, (A : Int), D⟩ hby; rw [es] at t; exact t
  rw [es]
  have B1 := opW_below w ⟨2, n, (A : Int), D⟩ dv
  have K1 := opW_bk w ⟨2, n, (A : Int), D⟩ dv
  have P1 := h.below B1
  have CL := sendI g base m n i _ P1 hg hI (by omega) hn
  rw [← em, ← ecd] at CL
  unfold opW at B1 K1 P1 CL
  dsimp only at B1 K1 P1 CL
  have h1 : ¬ (A : Int) < 0 := by omega
  have h2 : ¬ (256 : Int) ≤ (A : Int) := by omega
  have h3 : ¬ n < 0 := by omega
  have h4 : ¬ 2000 < n := by omega
  have hsz : w.heap.size ≤ w.heap.size + 1 := by omega
  have HH : Hid _ := And.intro B1 (And.intro K1 (And.intro P1 (And.intro hI' CL)))
  obtain ⟨ao, cp, ev⟩ := hr.form
  generalize D.length = dn at ev
  clear B1 K1 P1 h hI hI' hr es hby hl hc hn CL em ecd
  subst ev
  go_enter_defers Try.func18, Try.ntmps18
  go_wp2_with fail
  go_at_call 24
  refine HH.out.2.2.2.2.mono ?_
  rintro e w2 ⟨rfl, P2, C2⟩
  have hq2 := C2.bk HH.out.2.1.2 (Or.inr ⟨fun e => by omega, by decide⟩)
  have y0 : w2.cell? ⟨w.heap.size + 1, 0, none⟩ = some (.int .i64 0) := (bk_cell hq2 0).trans rfl
  have f0 := bk_free hq2 0
  have y1 : w2.cell? ⟨w.heap.size + 1, 1, none⟩ = some (.int .i64 0) := (bk_cell hq2 1).trans rfl
  have f1 := bk_free hq2 1
  have y2 : w2.cell? ⟨w.heap.size + 1, 2, none⟩ = some (.int .i64 0) := (bk_cell hq2 2).trans rfl
  have f2 := bk_free hq2 2
  have y3 : w2.cell? ⟨w.heap.size + 1, 3, none⟩ = some (.bool false) := (bk_cell hq2 3).trans rfl
  have f3 := bk_free hq2 3
  have y4 : w2.cell? ⟨w.heap.size + 1, 4, none⟩ = some (.bool false) := (bk_cell hq2 4).trans rfl
  have f4 := bk_free hq2 4
  have H2 : Hid _ := And.intro P2 (And.intro C2 hq2)
  clear P2 C2 hq2
  go_wp2_with fail
  have T0 : ObW g base (w.heap.size + 1) w w2 m' _ := ⟨H2.out.1, (ChS.of_below HH.out.1).trans H2.out.2.1, H2.out.2.2⟩
  have T := ((((((T0).set hsz hgl 0 (.int .i64 cd)).set hsz hgl 0 (.int .i64 cd)).set hsz hgl 1 (.int .i64 0)).set hsz hgl 2 (.int .i64 0)).set hsz hgl 3 (.bool false)).set hsz hgl 4 (.bool false)
  refine leaves_cons (f := 22) (args := #[.pointer (some ⟨g, 0, none⟩), .pointer (some ⟨w.heap.size + 1, 0, none⟩)]) (by simp) (by simp [go_sem]) ?_
  obtain ⟨wv, B, O⟩ := id T.P
  refine (settleI g (w.heap.size + 1) m' wv (i + 1) cd 0 0 false false _ B HH.out.2.2.2.1 (by omega) (T.hq.trans rfl)).mono ?_
  rintro e u' w3 ⟨rfl, rfl, SQ⟩
  exact ⟨.agg #[.int .i64 cd, .int .i64 (m'.ad : Int), .int .i64 m'.may, .bool (m'.va m'.ad), .bool false], results_cell_row (t := 32) rfl _ _ (w.heap.size + 1) _ (fr := (0, 0)) _ rfl SQ.bk Try.underlying32 rfl infoPObs, rfl, run_fin T.P T.C T.hq hsz SQ hgl⟩
set_option maxRecDepth 20000 in
set_option maxHeartbeats 4000000 in
theorem run_chal (g base : Nat) (m : PX) (o : SPathOp) (dv : Value) (i : Nat) (w : World) (h : PRep w g base m) (hg : base ≤ g) (hI : PXI i m) (hi : i < 300) (hr : Row w .u8 dv o.f3) (hl : o.f3.length ≤ 1048576) (hbase : base ≤ w.heap.size) (hby : ∀ x ∈ o.f3, 0 ≤ x ∧ x < 256)
    (hc : ¬ (o.f2 < 0 ∨ 255 < o.f2 ∨ o.f1 < 0 ∨ 2000 < o.f1)) (hk : o.f0 = 3) :
    Calls Try.prog 18 #[.pointer (some ⟨g, 0, none⟩), .agg #[.int .i64 o.f0, .int .i64 o.f1, .int .i64 o.f2, dv]] w fun e w' => e = .returned (.agg #[.int .i64 (pobs (pstep m o)).f0, .int .i64 (pobs (pstep m o)).f1, .int .i64 (pobs (pstep m o)).f2, .bool (pobs (pstep m o)).f3, .bool (pobs (pstep m o)).f4]) ∧ PDo g base w w' (pstep m o).1 := by
  obtain ⟨k, n, a, D⟩ := o
  dsimp only at *
  have hgl : g < w.heap.size := by obtain ⟨wv, B, _⟩ := h; exact B.lt
  obtain ⟨A, rfl⟩ : ∃ A : Nat, a = (A : Int) := ⟨a.toNat, by omega⟩
  have hA : A < 256 := by omega
  have hn : 0 ≤ n ∧ n ≤ 2000 := by omega
  subst hk
  obtain ⟨m', em⟩ : ∃ m', m' = if D.length ≠ 8 then m else { m with ws := wpush m.ws (D, m.ad) } := ⟨_, rfl⟩
  obtain ⟨cd, ecd⟩ : ∃ cd : Int, cd = if D.length ≠ 8 then 1 else 0 := ⟨_, rfl⟩
  have es : pstep m ⟨3, n, (A : Int), D⟩ = (m', cd, false) := by
    rw [em, ecd]
    unfold pstep
    dsimp only
    rw [if_neg hc]
    rw [if_neg (by omega), if_neg (by omega), if_pos rfl]
    split <;> rfl
  have hI' : PXI (i + 1) m' := by have t := hI.step ⟨3, n, (A : Int), D⟩ hby; rw [es] at t; exact t
  rw [es]
  have B1 := opW_below w ⟨3, n, (A : Int), D⟩ dv
  have K1 := opW_bk w ⟨3, n, (A : Int), D⟩ dv
  have P1 := h.below B1
  have CL := chalI g base m dv D i _ P1 hg hI (hr.below B1) hl
  rw [← em, ← ecd] at CL
  unfold opW at B1 K1 P1 CL
  dsimp only at B1 K1 P1 CL
  have h1 : ¬ (A : Int) < 0 := by omega
  have h2 : ¬ (256 : Int) ≤ (A : Int) := by omega
  have h3 : ¬ n < 0 := by omega
  have h4 : ¬ 2000 < n := by omega
  have hsz : w.heap.size ≤ w.heap.size + 1 := by omega
  have HH : Hid _ := And.intro B1 (And.intro K1 (And.intro P1 (And.intro hI' CL)))
  obtain ⟨ao, cp, ev⟩ := hr.form
  generalize D.length = dn at ev
  clear B1 K1 P1 h hI hI' hr es hby hl hc hn CL em ecd
  subst ev
  go_enter_defers Try.func18, Try.ntmps18
  go_wp2_with fail
  go_at_call 25
  refine HH.out.2.2.2.2.mono ?_
  rintro e w2 ⟨rfl, P2, C2⟩
  have hq2 := C2.bk HH.out.2.1.2 (Or.inr ⟨fun e => by omega, by decide⟩)
  have y0 : w2.cell? ⟨w.heap.size + 1, 0, none⟩ = some (.int .i64 0) := (bk_cell hq2 0).trans rfl
  have f0 := bk_free hq2 0
  have y1 : w2.cell? ⟨w.heap.size + 1, 1, none⟩ = some (.int .i64 0) := (bk_cell hq2 1).trans rfl
  have f1 := bk_free hq2 1
  have y2 : w2.cell? ⟨w.heap.size + 1, 2, none⟩ = some (.int .i64 0) := (bk_cell hq2 2).trans rfl
  have f2 := bk_free hq2 2
  have y3 : w2.cell? ⟨w.heap.size + 1, 3, none⟩ = some (.bool false) := (bk_cell hq2 3).trans rfl
  have f3 := bk_free hq2 3
  have y4 : w2.cell? ⟨w.heap.size + 1, 4, none⟩ = some (.bool false) := (bk_cell hq2 4).trans rfl
  have f4 := bk_free hq2 4
  have H2 : Hid _ := And.intro P2 (And.intro C2 hq2)
  clear P2 C2 hq2
  go_wp2_with fail
  have T0 : ObW g base (w.heap.size + 1) w w2 m' _ := ⟨H2.out.1, (ChS.of_below HH.out.1).trans H2.out.2.1, H2.out.2.2⟩
  have T := ((((((T0).set hsz hgl 0 (.int .i64 cd)).set hsz hgl 0 (.int .i64 cd)).set hsz hgl 1 (.int .i64 0)).set hsz hgl 2 (.int .i64 0)).set hsz hgl 3 (.bool false)).set hsz hgl 4 (.bool false)
  refine leaves_cons (f := 22) (args := #[.pointer (some ⟨g, 0, none⟩), .pointer (some ⟨w.heap.size + 1, 0, none⟩)]) (by simp) (by simp [go_sem]) ?_
  obtain ⟨wv, B, O⟩ := id T.P
  refine (settleI g (w.heap.size + 1) m' wv (i + 1) cd 0 0 false false _ B HH.out.2.2.2.1 (by omega) (T.hq.trans rfl)).mono ?_
  rintro e u' w3 ⟨rfl, rfl, SQ⟩
  exact ⟨.agg #[.int .i64 cd, .int .i64 (m'.ad : Int), .int .i64 m'.may, .bool (m'.va m'.ad), .bool false], results_cell_row (t := 32) rfl _ _ (w.heap.size + 1) _ (fr := (0, 0)) _ rfl SQ.bk Try.underlying32 rfl infoPObs, rfl, run_fin T.P T.C T.hq hsz SQ hgl⟩
set_option maxRecDepth 20000 in
set_option maxHeartbeats 4000000 in
theorem run_answ (g base : Nat) (m : PX) (o : SPathOp) (dv : Value) (i : Nat) (w : World) (h : PRep w g base m) (hg : base ≤ g) (hI : PXI i m) (hi : i < 300) (hr : Row w .u8 dv o.f3) (hl : o.f3.length ≤ 1048576) (hbase : base ≤ w.heap.size) (hby : ∀ x ∈ o.f3, 0 ≤ x ∧ x < 256)
    (hc : ¬ (o.f2 < 0 ∨ 255 < o.f2 ∨ o.f1 < 0 ∨ 2000 < o.f1)) (hk : o.f0 = 4) :
    Calls Try.prog 18 #[.pointer (some ⟨g, 0, none⟩), .agg #[.int .i64 o.f0, .int .i64 o.f1, .int .i64 o.f2, dv]] w fun e w' => e = .returned (.agg #[.int .i64 (pobs (pstep m o)).f0, .int .i64 (pobs (pstep m o)).f1, .int .i64 (pobs (pstep m o)).f2, .bool (pobs (pstep m o)).f3, .bool (pobs (pstep m o)).f4]) ∧ PDo g base w w' (pstep m o).1 := by
  obtain ⟨k, n, a, D⟩ := o
  dsimp only at *
  have hgl : g < w.heap.size := by obtain ⟨wv, B, _⟩ := h; exact B.lt
  obtain ⟨A, rfl⟩ : ∃ A : Nat, a = (A : Int) := ⟨a.toNat, by omega⟩
  have hA : A < 256 := by omega
  have hn : 0 ≤ n ∧ n ≤ 2000 := by omega
  subst hk
  obtain ⟨m', em⟩ : ∃ m', m' = if D.length ≠ 8 then m else answM m D := ⟨_, rfl⟩
  obtain ⟨cd, ecd⟩ : ∃ cd : Int, cd = if D.length ≠ 8 then 1 else 0 := ⟨_, rfl⟩
  obtain ⟨an, ean⟩ : ∃ an : Bool, an = decide (D.length = 8 ∧ wat m.ws D < m.ws.length) := ⟨_, rfl⟩
  have es : pstep m ⟨4, n, (A : Int), D⟩ = (m', cd, an) := by
    rw [em, ecd, ean]
    unfold pstep
    dsimp only
    rw [if_neg hc]
    rw [if_neg (by omega), if_neg (by omega), if_neg (by omega), if_pos rfl]
    by_cases h8 : D.length = 8
    · have hn8 : ¬ D.length ≠ 8 := fun e => e h8
      simp only [if_neg hn8]
      unfold answM
      by_cases hf : wat m.ws D < m.ws.length
      · simp only [if_pos hf, decide_eq_true (show D.length = 8 ∧ wat m.ws D < m.ws.length from ⟨h8, hf⟩)]
      · simp only [if_neg hf, decide_eq_false (show ¬ (D.length = 8 ∧ wat m.ws D < m.ws.length) from fun e => hf e.2)]
    · have h8' : D.length ≠ 8 := h8
      simp only [if_pos h8', decide_eq_false (show ¬ (D.length = 8 ∧ wat m.ws D < m.ws.length) from fun e => h8 e.1)]
  have hI' : PXI (i + 1) m' := by have t := hI.step ⟨4, n, (A : Int), D⟩ hby; rw [es] at t; exact t
  rw [es]
  have B1 := opW_below w ⟨4, n, (A : Int), D⟩ dv
  have K1 := opW_bk w ⟨4, n, (A : Int), D⟩ dv
  have P1 := h.below B1
  have CL := answI g base m dv D i _ P1 hg hI (hr.below B1) hl (Nat.le_trans hbase B1.size)
  rw [← em, ← ecd, ← ean] at CL
  unfold opW at B1 K1 P1 CL
  dsimp only at B1 K1 P1 CL
  have h1 : ¬ (A : Int) < 0 := by omega
  have h2 : ¬ (256 : Int) ≤ (A : Int) := by omega
  have h3 : ¬ n < 0 := by omega
  have h4 : ¬ 2000 < n := by omega
  have hsz : w.heap.size ≤ w.heap.size + 1 := by omega
  have HH : Hid _ := And.intro B1 (And.intro K1 (And.intro P1 (And.intro hI' CL)))
  obtain ⟨ao, cp, ev⟩ := hr.form
  generalize D.length = dn at ev
  clear B1 K1 P1 h hI hI' hr es hby hl hc hn CL em ecd ean
  subst ev
  go_enter_defers Try.func18, Try.ntmps18
  go_wp2_with fail
  go_at_call 26
  refine HH.out.2.2.2.2.mono ?_
  rintro e w2 ⟨rfl, P2, C2⟩
  have hq2 := C2.bk HH.out.2.1.2 (Or.inr ⟨fun e => by omega, by decide⟩)
  have y0 : w2.cell? ⟨w.heap.size + 1, 0, none⟩ = some (.int .i64 0) := (bk_cell hq2 0).trans rfl
  have f0 := bk_free hq2 0
  have y1 : w2.cell? ⟨w.heap.size + 1, 1, none⟩ = some (.int .i64 0) := (bk_cell hq2 1).trans rfl
  have f1 := bk_free hq2 1
  have y2 : w2.cell? ⟨w.heap.size + 1, 2, none⟩ = some (.int .i64 0) := (bk_cell hq2 2).trans rfl
  have f2 := bk_free hq2 2
  have y3 : w2.cell? ⟨w.heap.size + 1, 3, none⟩ = some (.bool false) := (bk_cell hq2 3).trans rfl
  have f3 := bk_free hq2 3
  have y4 : w2.cell? ⟨w.heap.size + 1, 4, none⟩ = some (.bool false) := (bk_cell hq2 4).trans rfl
  have f4 := bk_free hq2 4
  have H2 : Hid _ := And.intro P2 (And.intro C2 hq2)
  clear P2 C2 hq2
  go_wp2_with fail
  have T0 : ObW g base (w.heap.size + 1) w w2 m' _ := ⟨H2.out.1, (ChS.of_below HH.out.1).trans H2.out.2.1, H2.out.2.2⟩
  have T := (((((((T0).set hsz hgl 4 (.bool an)).set hsz hgl 0 (.int .i64 cd)).set hsz hgl 0 (.int .i64 cd)).set hsz hgl 1 (.int .i64 0)).set hsz hgl 2 (.int .i64 0)).set hsz hgl 3 (.bool false)).set hsz hgl 4 (.bool an)
  refine leaves_cons (f := 22) (args := #[.pointer (some ⟨g, 0, none⟩), .pointer (some ⟨w.heap.size + 1, 0, none⟩)]) (by simp) (by simp [go_sem]) ?_
  obtain ⟨wv, B, O⟩ := id T.P
  refine (settleI g (w.heap.size + 1) m' wv (i + 1) cd 0 0 false an _ B HH.out.2.2.2.1 (by omega) (T.hq.trans rfl)).mono ?_
  rintro e u' w3 ⟨rfl, rfl, SQ⟩
  exact ⟨.agg #[.int .i64 cd, .int .i64 (m'.ad : Int), .int .i64 m'.may, .bool (m'.va m'.ad), .bool an], results_cell_row (t := 32) rfl _ _ (w.heap.size + 1) _ (fr := (0, 0)) _ rfl SQ.bk Try.underlying32 rfl infoPObs, rfl, run_fin T.P T.C T.hq hsz SQ hgl⟩
set_option maxRecDepth 20000 in
set_option maxHeartbeats 4000000 in
theorem run_other (g base : Nat) (m : PX) (o : SPathOp) (dv : Value) (i : Nat) (w : World) (h : PRep w g base m) (hg : base ≤ g) (hI : PXI i m) (hi : i < 300) (hr : Row w .u8 dv o.f3) (hl : o.f3.length ≤ 1048576) (hbase : base ≤ w.heap.size) (hby : ∀ x ∈ o.f3, 0 ≤ x ∧ x < 256)
    (hc : ¬ (o.f2 < 0 ∨ 255 < o.f2 ∨ o.f1 < 0 ∨ 2000 < o.f1)) (hk : o.f0 ≠ 1 ∧ o.f0 ≠ 2 ∧ o.f0 ≠ 3 ∧ o.f0 ≠ 4) :
    Calls Try.prog 18 #[.pointer (some ⟨g, 0, none⟩), .agg #[.int .i64 o.f0, .int .i64 o.f1, .int .i64 o.f2, dv]] w fun e w' => e = .returned (.agg #[.int .i64 (pobs (pstep m o)).f0, .int .i64 (pobs (pstep m o)).f1, .int .i64 (pobs (pstep m o)).f2, .bool (pobs (pstep m o)).f3, .bool (pobs (pstep m o)).f4]) ∧ PDo g base w w' (pstep m o).1 := by
  obtain ⟨k, n, a, D⟩ := o
  dsimp only at *
  have hgl : g < w.heap.size := by obtain ⟨wv, B, _⟩ := h; exact B.lt
  obtain ⟨A, rfl⟩ : ∃ A : Nat, a = (A : Int) := ⟨a.toNat, by omega⟩
  have hA : A < 256 := by omega
  have hn : 0 ≤ n ∧ n ≤ 2000 := by omega
  have es : pstep m ⟨k, n, (A : Int), D⟩ = (m, 1, false) := by
    unfold pstep
    dsimp only
    rw [if_neg hc]
    rw [if_neg hk.1, if_neg hk.2.1, if_neg hk.2.2.1, if_neg hk.2.2.2]
  have hI' : PXI (i + 1) m := by have t := hI.step ⟨k, n, (A : Int), D⟩ hby; rw [es] at t; exact t
  rw [es]
  have B1 := opW_below w ⟨k, n, (A : Int), D⟩ dv
  have K1 := opW_bk w ⟨k, n, (A : Int), D⟩ dv
  have P1 := h.below B1
  unfold opW at B1 K1 P1
  dsimp only at B1 K1 P1
  have h1 : ¬ (A : Int) < 0 := by omega
  have h2 : ¬ (256 : Int) ≤ (A : Int) := by omega
  have h3 : ¬ n < 0 := by omega
  have h4 : ¬ 2000 < n := by omega
  have hsz : w.heap.size ≤ w.heap.size + 1 := by omega
  have HH : Hid _ := And.intro B1 (And.intro K1 (And.intro P1 (And.intro hI' h)))
  obtain ⟨ao, cp, ev⟩ := hr.form
  generalize D.length = dn at ev
  clear B1 K1 P1 h hI hI' hr es hby hl hc hn  
  subst ev
  have n1 : (k == 1) = false := by simpa using hk.1
  have n2 : (k == 2) = false := by simpa using hk.2.1
  have n3 : (k == 3) = false := by simpa using hk.2.2.1
  have n4 : (k == 4) = false := by simpa using hk.2.2.2
  clear hk
  go_enter_defers Try.func18, Try.ntmps18
  go_wp2_with fail
  have hb : Below w.heap.size w ((w.alloc (.cells #[.int .i64 k, .int .i64 n, .int .i64 (A : Int), .slice ao dn cp] 34)).alloc (.cells #[.int .i64 1, .int .i64 0, .int .i64 0, .bool false, .bool false] 32)) := ((Below.refl _ _).alloc (Nat.le_refl _) _).alloc (by simp) _
  have T : ObW g base (w.heap.size + 1) w _ m _ := ⟨HH.out.2.2.2.2.below hb, ChS.of_below hb, (bk_new2 w _ _).2⟩
  refine leaves_cons (f := 22) (args := #[.pointer (some ⟨g, 0, none⟩), .pointer (some ⟨w.heap.size + 1, 0, none⟩)]) (by simp) (by simp [go_sem]) ?_
  obtain ⟨wv, B, O⟩ := id T.P
  refine (settleI g (w.heap.size + 1) m wv (i + 1) 1 0 0 false false _ B HH.out.2.2.2.1 (by omega) (T.hq.trans rfl)).mono ?_
  rintro e u' w3 ⟨rfl, rfl, SQ⟩
  exact ⟨.agg #[.int .i64 1, .int .i64 (m.ad : Int), .int .i64 m.may, .bool (m.va m.ad), .bool false], results_cell_row (t := 32) rfl _ _ (w.heap.size + 1) _ (fr := (0, 0)) _ rfl SQ.bk Try.underlying32 rfl infoPObs, rfl, run_fin T.P T.C T.hq hsz SQ hgl⟩
end Go.Proofs.Ytdoglkjhmaiknaa

namespace Go.Proofs.Ytdoglkjhmaiknaa
open Go.RowKit
set_option linter.unusedVariables false
set_option linter.unusedSimpArgs false

theorem runP (g base : Nat) (m : PX) (o : SPathOp) (dv : Value) (i : Nat) (w : World) (h : PRep w g base m) (hg : base ≤ g) (hI : PXI i m) (hi : i < 300) (hr : Row w .u8 dv o.f3) (hl : o.f3.length ≤ 1048576) (hbase : base ≤ w.heap.size) (hby : ∀ x ∈ o.f3, 0 ≤ x ∧ x < 256) :
    Calls Try.prog 18 #[.pointer (some ⟨g, 0, none⟩), .agg #[.int .i64 o.f0, .int .i64 o.f1, .int .i64 o.f2, dv]] w fun e w' => e = .returned (.agg #[.int .i64 (pobs (pstep m o)).f0, .int .i64 (pobs (pstep m o)).f1, .int .i64 (pobs (pstep m o)).f2, .bool (pobs (pstep m o)).f3, .bool (pobs (pstep m o)).f4]) ∧ PDo g base w w' (pstep m o).1 := by
  by_cases hc : o.f2 < 0 ∨ 255 < o.f2 ∨ o.f1 < 0 ∨ 2000 < o.f1
  · exact run_bad g base m o dv i w h hg hI hi hr hl hbase hby hc
  by_cases k1 : o.f0 = 1
  · exact run_came g base m o dv i w h hg hI hi hr hl hbase hby hc k1
  by_cases k2 : o.f0 = 2
  · exact run_send g base m o dv i w h hg hI hi hr hl hbase hby hc k2
  by_cases k3 : o.f0 = 3
  · exact run_chal g base m o dv i w h hg hI hi hr hl hbase hby hc k3
  by_cases k4 : o.f0 = 4
  · exact run_answ g base m o dv i w h hg hI hi hr hl hbase hby hc k4
  exact run_other g base m o dv i w h hg hI hi hr hl hbase hby hc ⟨k1, k2, k3, k4⟩
theorem ChS.ownsC {S : Nat → Prop} {T : TypeId} {base : Nat} {w w' : World} (h : ChS S T base w w') {b e s n : Nat} {v : Value} {xs : List Value} (ho : w.ownsRow b e s v n xs) (hne : e ≠ T) (hs : ∀ k, v.ownBlock = some k → ¬ S k) : w'.ownsRow b e s v n xs := by
  obtain ⟨hl, h2⟩ := ho
  refine ⟨hl, ?_⟩
  rcases h2 with h2 | ⟨g', cap, cur, rfl, hg, hh, r⟩
  · exact Or.inl h2
  · exact Or.inr ⟨g', cap, cur, rfl, hg, h.bk hh (Or.inr ⟨hs g' rfl, hne⟩), r⟩
theorem PRep.setO {W : World} {g base q : Nat} {m : PX} {c : Array Value} (h : PRep W g base m) (hb : W.heap[q]? = some (.cells c 32 (0, 0))) (hne : q ≠ g) (o : Nat) (v : Value) : PRep (W.setCell ⟨q, o, none⟩ v) g base m := by
  obtain ⟨wv, B, O⟩ := h
  exact ⟨wv, B.same (bk_other (Ne.symm hne) o v), O.set hb (by decide)⟩
theorem own_blk {w : World} {b e s n q cap : Nat} {xs : List Value} (h : w.ownsRow b e s (.slice (some ⟨q, 0, none⟩) n cap) n xs) : ∃ cur : Array Value, w.heap[q]? = some (.cells cur e (0, 0)) := by
  rcases h.2 with ⟨e, _⟩ | ⟨g', cap', cur, e, hg, hh, r⟩
  · exact absurd e (by simp)
  · simp only [Value.slice.injEq, Option.some.injEq, Addr.mk.injEq] at e
    obtain ⟨⟨rfl, -⟩, -, -⟩ := e
    exact ⟨cur, hh⟩
/-- Behind k operations. -/
structure RunPJ (g : Nat) (srv : Bool) (R : List SPathOp) (w0 w wr : World) (n k : Nat) (zs : List Value) : Prop where
  zl : zs.length = n * 5
  ow : wr.ownsRow w.heap.size 32 5 (.slice (some ⟨w.heap.size, 0, none⟩) n n) n zs
  cs : ∀ j, j < k → ∀ f, f < 5 → zs[j * 5 + f]? = (pobsAt srv R j).c[f]?
  rep : PRep wr g w0.heap.size (prunP srv R k)
  bw : Below w0.heap.size w0 wr
set_option maxRecDepth 20000 in
set_option maxHeartbeats 4000000 in
theorem runAllP (g : Nat) (srv : Bool) (v : Value) (R : List SPathOp) (w0 w : World) (hbel : Below w0.heap.size w0 w) (hg0 : w0.heap.size ≤ g) (row : BRow 4 SPathOp.c SPathOp.d w0 v R) (hn : R.length ≤ 300)
    (hd : ∀ j, j < R.length → (R.getD j default).d.length ≤ 1048576) (hby : ∀ j, ∀ x ∈ (R.getD j default).f3, 0 ≤ x ∧ x < 256) (hR : PRep w g w0.heap.size (prunP srv R 0)) :
    Calls Try.prog 16 #[v, .func (.func 18) #[.pointer (some ⟨g, 0, none⟩)] #[]] w fun e w' => ∃ r, e = .returned r ∧ GOwns 32 5 w' w0.heap.size r (SPathObs.L ((List.range R.length).map (pobsAt srv R))) ∧ Below w0.heap.size w0 w' := by
  obtain ⟨ao, cp, ev⟩ := row.form
  obtain ⟨i0, hi, hz0, hz1, hz2⟩ := info_parts infoPathObs
  obtain ⟨n, en⟩ : ∃ n, n = R.length := ⟨_, rfl⟩
  have HH : Hid _ := And.intro row (And.intro hd (And.intro hby (And.intro hR (And.intro hbel en))))
  have hglt : g < w.heap.size := by obtain ⟨wv, B, _⟩ := hR; exact B.lt
  rw [← en] at hn ⊢
  rw [← en] at ev
  subst ev
  clear row hd hby hR en
  go_enter Try.func16, Try.ntmps16
  go_wp2_with (at_make; refine wpList_make_full _ rfl _ _ 26 rfl w.heap.size 32 i0 (.agg #[.int .i64 0, .int .i64 0, .int .i64 0, .bool false, .bool false]) 5 Try.underlying26 hi hz0 hz1 .i64 .i64 (n : Int) (n : Int) n rfl rfl rfl rfl (by rw [hz2]; omega) (by unfold maxLen; omega) (Nat.le_refl _) ?_; intro w1 hown hg)
  have H1 : Hid _ := And.intro hown ((Below.refl w.heap.size w).grown hg (Nat.le_refl _) (by intro k hk; cases hk))
  clear hown hg
  go_loopg [13] n (fun q i wr => ∃ k : Nat, k ≤ n ∧ q = n - k ∧ i = .int .i64 (k : Int) ∧ ∃ zs, RunPJ g srv R w0 w wr n k zs)
  case atStart =>
    have e0 := HH.out.2.2.2.2.2
    refine ⟨0, by omega, by omega, rfl, _, by have := H1.out.1.1; simpa using this, H1.out.1, fun j hj => by omega, HH.out.2.2.2.1.below H1.out.2, HH.out.2.2.2.2.1.trans (H1.out.2.mono HH.out.2.2.2.2.1.size)⟩
  case round =>
    obtain ⟨k, hk, hq, rfl, zs, H2⟩ := hrel
    by_cases hlt : k < n
    · obtain ⟨b, off, cap, ev, hbl, U0, hc, hr⟩ := HH.out.1.at' (by have := HH.out.2.2.2.2.2; omega)
      simp only [Value.slice.injEq] at ev
      obtain ⟨rfl, em2, rfl⟩ := ev
      clear em2
      have e0 := HH.out.2.2.2.2.2
      have hck := hc k (by omega)
      obtain ⟨uk, euk⟩ : ∃ u, u = U0 k := ⟨_, rfl⟩
      have hrk := (hr k (by omega)).below H2.bw
      rw [← euk] at hck hrk
      have hgl : w.heap.size < wr.heap.size := (H2.ow.lt w.heap.size rfl).2
      obtain ⟨o, eo⟩ : ∃ o, o = R.getD k default := ⟨_, rfl⟩
      have hdk := HH.out.2.1 k (by omega)
      have hbk := HH.out.2.2.1 k
      rw [← eo] at hck hrk hdk hbk
      have c0 : wr.cell? ⟨b, off + k * 4, none⟩ = some (.int .i64 o.f0) := (H2.bw.cell (p := ⟨b, off + (k * 4 + 0), none⟩) hbl).trans (hck 0 (by omega))
      have c1 : wr.cell? ⟨b, off + k * 4 + 1, none⟩ = some (.int .i64 o.f1) := (H2.bw.cell (p := ⟨b, off + (k * 4 + 1), none⟩) hbl).trans (hck 1 (by omega))
      have c2 : wr.cell? ⟨b, off + k * 4 + 2, none⟩ = some (.int .i64 o.f2) := (H2.bw.cell (p := ⟨b, off + (k * 4 + 2), none⟩) hbl).trans (hck 2 (by omega))
      have c3 : wr.cell? ⟨b, off + k * 4 + 3, none⟩ = some (uk) := (H2.bw.cell (p := ⟨b, off + (k * 4 + 3), none⟩) hbl).trans (hck 3 (by omega))
      have BA : Below wr.heap.size wr (wr.alloc (.cells #[.int .i64 o.f0, .int .i64 o.f1, .int .i64 o.f2, uk] 34)) := (Below.refl _ _).alloc (Nat.le_refl _) _
      have hI := prunP_inv srv R HH.out.2.2.1 k
      have C := runP g w0.heap.size (prunP srv R k) o uk k _ (H2.rep.below BA) hg0 hI (by omega) (hrk.below BA) hdk (Nat.le_trans H2.bw.size BA.size) hbk
      obtain ⟨ua, uc, eu⟩ := hrk.form
      obtain ⟨un, eun⟩ : ∃ un, un = o.d.length := ⟨_, rfl⟩
      rw [← eun] at eu
      obtain ⟨S, eS⟩ : ∃ S, S = pstep (prunP srv R k) o := ⟨_, rfl⟩
      rw [← eS] at C
      have H4 : Hid _ := And.intro C (And.intro eo (And.intro BA eS))
      clear C hck hrk hc hr euk eo eun e0 hdk hbk BA hI eS
      obtain ⟨x0, x1, x2, x3⟩ := o
      subst eu
      dsimp only at *
      have H2H : Hid _ := And.intro H2 True.intro
      clear H2
      go_wp2_with fail
      refine H4.out.1.mono ?_
      rintro e w2 ⟨rfl, rp2, ch2⟩
      have chA := (ChS.of_below (S := fun k => k = g) (T := 74) (base := w0.heap.size) H4.out.2.2.1).trans ch2
      have ow2 := chA.ownsC H2H.out.1.ow (by decide) (fun t ht => by simp [Value.ownBlock] at ht; subst ht; omega)
      have h2z := ch2.size
      obtain ⟨q0, eq0⟩ : ∃ x, x = (pobs S).f0 := ⟨_, rfl⟩
      obtain ⟨q1, eq1⟩ : ∃ x, x = (pobs S).f1 := ⟨_, rfl⟩
      obtain ⟨q2, eq2⟩ : ∃ x, x = (pobs S).f2 := ⟨_, rfl⟩
      obtain ⟨q3, eq3⟩ : ∃ x, x = (pobs S).f3 := ⟨_, rfl⟩
      obtain ⟨q4, eq4⟩ : ∃ x, x = (pobs S).f4 := ⟨_, rfl⟩
      rw [← eq0, ← eq1, ← eq2, ← eq3, ← eq4]
      have d0 : k * 5 < n * 5 := by omega
      have s0 : w2.cell? ⟨w.heap.size, k * 5, none⟩ = zs[k * 5]? := ow2.cellAt (k * 5) d0
      obtain ⟨z0, hz0'⟩ : ∃ z, zs[k * 5]? = some z := ⟨zs[k * 5]'(by have := H2H.out.1.zl; omega), by simp [H2H.out.1.zl, d0]⟩
      rw [hz0'] at s0
      have f0 := ow2.frozenAt (k * 5)
      have d1 : k * 5 + 1 < n * 5 := by omega
      have s1 : w2.cell? ⟨w.heap.size, k * 5 + 1, none⟩ = zs[k * 5 + 1]? := ow2.cellAt (k * 5 + 1) d1
      obtain ⟨z1, hz1'⟩ : ∃ z, zs[k * 5 + 1]? = some z := ⟨zs[k * 5 + 1]'(by have := H2H.out.1.zl; omega), by simp [H2H.out.1.zl, d1]⟩
      rw [hz1'] at s1
      have f1 := ow2.frozenAt (k * 5 + 1)
      have d2 : k * 5 + 2 < n * 5 := by omega
      have s2 : w2.cell? ⟨w.heap.size, k * 5 + 2, none⟩ = zs[k * 5 + 2]? := ow2.cellAt (k * 5 + 2) d2
      obtain ⟨z2, hz2'⟩ : ∃ z, zs[k * 5 + 2]? = some z := ⟨zs[k * 5 + 2]'(by have := H2H.out.1.zl; omega), by simp [H2H.out.1.zl, d2]⟩
      rw [hz2'] at s2
      have f2 := ow2.frozenAt (k * 5 + 2)
      have d3 : k * 5 + 3 < n * 5 := by omega
      have s3 : w2.cell? ⟨w.heap.size, k * 5 + 3, none⟩ = zs[k * 5 + 3]? := ow2.cellAt (k * 5 + 3) d3
      obtain ⟨z3, hz3'⟩ : ∃ z, zs[k * 5 + 3]? = some z := ⟨zs[k * 5 + 3]'(by have := H2H.out.1.zl; omega), by simp [H2H.out.1.zl, d3]⟩
      rw [hz3'] at s3
      have f3 := ow2.frozenAt (k * 5 + 3)
      have d4 : k * 5 + 4 < n * 5 := by omega
      have s4 : w2.cell? ⟨w.heap.size, k * 5 + 4, none⟩ = zs[k * 5 + 4]? := ow2.cellAt (k * 5 + 4) d4
      obtain ⟨z4, hz4'⟩ : ∃ z, zs[k * 5 + 4]? = some z := ⟨zs[k * 5 + 4]'(by have := H2H.out.1.zl; omega), by simp [H2H.out.1.zl, d4]⟩
      rw [hz4'] at s4
      have f4 := ow2.frozenAt (k * 5 + 4)
      have H3 : Hid _ := And.intro ow2 (And.intro rp2 chA)
      have HQ : Hid _ := And.intro eq0 (And.intro eq1 (And.intro eq2 (And.intro eq3 eq4)))
      clear ow2 rp2 chA ch2 eq0 eq1 eq2 eq3 eq4 hz0' hz1' hz2' hz3' hz4'
      go_wp2
      go_roundg (n - (k + 1))
      case measure => omega
      case rel =>
        obtain ⟨eq0, eq1, eq2, eq3, eq4⟩ := HQ.out
        obtain ⟨zl, ow, cs, rep, bw⟩ := H2H.out.1
        have eS := H4.out.2.2.2
        rw [H4.out.2.1] at eS
        obtain ⟨cur, hbo⟩ := own_blk H3.out.1
        have hog : w.heap.size ≠ g := by omega
        refine ⟨k + 1, by omega, rfl, by go_num, (((((zs.set (k * 5) (.int .i64 q0)).set (k * 5 + 1) (.int .i64 q1)).set (k * 5 + 2) (.int .i64 q2)).set (k * 5 + 3) (.bool q3)).set (k * 5 + 4) (.bool q4)), by simp only [List.length_set]; exact zl, (((((H3.out.1.stored (k * 5) _).1.stored (k * 5 + 1) _).1.stored (k * 5 + 2) _).1.stored (k * 5 + 3) _).1.stored (k * 5 + 4) _).1, fun j hj f hf => ?_, by rw [show prunP srv R (k + 1) = S.1 by rw [eS]; rfl]; exact (((((H3.out.2.1.setO (hbo) hog (k * 5) (.int .i64 q0)).setO (bk_set (hbo) (k * 5) (.int .i64 q0)) hog (k * 5 + 1) (.int .i64 q1)).setO (bk_set (bk_set (hbo) (k * 5) (.int .i64 q0)) (k * 5 + 1) (.int .i64 q1)) hog (k * 5 + 2) (.int .i64 q2)).setO (bk_set (bk_set (bk_set (hbo) (k * 5) (.int .i64 q0)) (k * 5 + 1) (.int .i64 q1)) (k * 5 + 2) (.int .i64 q2)) hog (k * 5 + 3) (.bool q3)).setO (bk_set (bk_set (bk_set (bk_set (hbo) (k * 5) (.int .i64 q0)) (k * 5 + 1) (.int .i64 q1)) (k * 5 + 2) (.int .i64 q2)) (k * 5 + 3) (.bool q3)) hog (k * 5 + 4) (.bool q4)), ((((((H2H.out.1.bw.trans (H3.out.2.2.toBelow H2H.out.1.bw.size)).setCell (p := ⟨w.heap.size, k * 5, none⟩) hbel.size _).setCell (p := ⟨w.heap.size, k * 5 + 1, none⟩) hbel.size _).setCell (p := ⟨w.heap.size, k * 5 + 2, none⟩) hbel.size _).setCell (p := ⟨w.heap.size, k * 5 + 3, none⟩) hbel.size _).setCell (p := ⟨w.heap.size, k * 5 + 4, none⟩) hbel.size _)⟩
        by_cases hjk : j = k
        · subst hjk
          rw [show pobsAt srv R j = pobs S by rw [eS]; rfl]
          unfold SPathObs.c
          rw [← eq0, ← eq1, ← eq2, ← eq3, ← eq4]
          obtain rfl | rfl | rfl | rfl | rfl : f = 0 ∨ f = 1 ∨ f = 2 ∨ f = 3 ∨ f = 4 := by omega
          · rw [show j * 5 + 0 = j * 5 from rfl, List.getElem?_set_ne (by omega), List.getElem?_set_ne (by omega), List.getElem?_set_ne (by omega), List.getElem?_set_ne (by omega), List.getElem?_set_self (by first | omega | (simp only [List.length_set]; omega))]; rfl
          · rw [List.getElem?_set_ne (by omega), List.getElem?_set_ne (by omega), List.getElem?_set_ne (by omega), List.getElem?_set_self (by first | omega | (simp only [List.length_set]; omega))]; rfl
          · rw [List.getElem?_set_ne (by omega), List.getElem?_set_ne (by omega), List.getElem?_set_self (by first | omega | (simp only [List.length_set]; omega))]; rfl
          · rw [List.getElem?_set_ne (by omega), List.getElem?_set_self (by first | omega | (simp only [List.length_set]; omega))]; rfl
          · rw [List.getElem?_set_self (by first | omega | (simp only [List.length_set]; omega))]; rfl
        · have u := cs j (by omega) f hf
          rw [List.getElem?_set_ne (by omega), List.getElem?_set_ne (by omega), List.getElem?_set_ne (by omega), List.getElem?_set_ne (by omega), List.getElem?_set_ne (by omega)]; exact u
    · obtain rfl : k = n := by omega
      have H2H : Hid _ := And.intro H2 True.intro
      clear H2
      go_wp2
      go_ret
      obtain ⟨zl, ow, cs, rep, bw⟩ := H2H.out.1
      refine ⟨_, rfl, ⟨zs, by rw [List.length_map, List.length_map, List.length_range]; exact owns_mono ow hbel.size, fun j hj f hf => ?_⟩, bw⟩
      rw [List.length_map, List.length_map, List.length_range] at hj
      rw [cs j hj f hf, SPathObs.at _ j (by rw [List.length_map, List.length_range]; exact hj)]
      simp [List.getD, hj]
/-- The cells of new paths. -/
def pxZ (b : Bool) : List Value := .bool b :: .int .i64 0 :: ((List.replicate 256 [Value.int .i64 0, Value.int .i64 0, Value.bool false]).flatten ++ [.slice none 0 0])
theorem pxZ_built (b : Bool) : Try.prog.built 60 [(0, .bool b)] = some (pxZ b).toArray := by
  cases b
  · kernel_rfl
  · kernel_rfl
theorem rep_flat (n : Nat) (r : List Value) (K : Nat) (h : r.length = K ∧ ∀ v ∈ r, v.oneCell' = true) : FlatK K (List.replicate n r) := fun x hx => by
  rw [(List.mem_replicate.1 hx).2]; exact h
theorem pxZ_at (b : Bool) (k f : Nat) (hk : k < 256) (hf : f < 3) : (pxZ b)[2 + k * 3 + f]? = [Value.int .i64 0, Value.int .i64 0, Value.bool false][f]? := by
  have hF : FlatK 3 (List.replicate 256 [Value.int .i64 0, Value.int .i64 0, Value.bool false]) := rep_flat _ _ 3 ⟨rfl, by decide⟩
  have hl := flat_len hF
  rw [List.length_replicate] at hl
  unfold pxZ
  rw [show 2 + k * 3 + f = (k * 3 + f) + 1 + 1 by omega, List.getElem?_cons_succ, List.getElem?_cons_succ, List.getElem?_append_left (by omega), flat_get hF k f (by rw [List.length_replicate]; exact hk) hf, List.getD_eq_getElem?_getD, List.getElem?_replicate, if_pos hk]
  rfl
theorem pxZ_len (b : Bool) : (pxZ b).length = 771 := by
  have hF : FlatK 3 (List.replicate 256 [Value.int .i64 0, Value.int .i64 0, Value.bool false]) := rep_flat _ _ 3 ⟨rfl, by decide⟩
  have hl := flat_len hF
  rw [List.length_replicate] at hl
  unfold pxZ
  simp only [List.length_cons, List.length_append, hl, List.length_nil]
theorem pxZ_last (b : Bool) : (pxZ b)[770]? = some (.slice none 0 0) := by
  have hF : FlatK 3 (List.replicate 256 [Value.int .i64 0, Value.int .i64 0, Value.bool false]) := rep_flat _ _ 3 ⟨rfl, by decide⟩
  have hl := flat_len hF
  rw [List.length_replicate] at hl
  unfold pxZ
  rw [show 770 = 768 + 1 + 1 from rfl, List.getElem?_cons_succ, List.getElem?_cons_succ, List.getElem?_append_right (by omega), hl]
  rfl
theorem wpList_build1 {w : World} {ops : Array Oper} {rest : List Oper} {oo : Oper} {a : Act} {Q : Exit → Act → World → Prop} (hg : oo.guard = none) (t : TypeId) (x : Operand) (ho : oo.op = .build t #[(0, x)]) (v : Value) (hx : a.eval x = v) (Z : Array Value)
    (hb : Try.prog.built t [(0, v)] = some Z) (h : wpList Try.prog ops Q rest (a.put oo.dst (.agg Z)) w) : wpList Try.prog ops Q (oo :: rest) a w := by
  refine wpList_plain hg fun K hK => ?_
  unfold Oper.wp execOp
  have hr := run_build w t #[(0, v)] Z hb
  simp only [ho, Sem.run_bind, List.map_toArray, List.map_cons, List.map_nil, hx, hr, Result.andThen_ok]
  exact hK _ _ h
set_option maxRecDepth 20000 in
set_option maxHeartbeats 2000000 in
theorem newP (srv : Bool) (base : Nat) (w : World) (hb : base ≤ w.heap.size) :
    Calls Try.prog 17 #[.bool srv] w fun e w' => e = .returned (.pointer (some ⟨w.heap.size, 0, none⟩)) ∧ PRep w' w.heap.size base (px0 srv) ∧ Below w.heap.size w w' := by
  have hrun := pxZ_built srv
  obtain ⟨Z, eZ⟩ : ∃ Z : Array Value, Z = (pxZ srv).toArray := ⟨_, rfl⟩
  have z0 : Z[0]? = some (.bool srv) := by rw [eZ]; rfl
  have z1 : Z[1]? = some (.int .i64 0) := by rw [eZ]; rfl
  have zk : ∀ k f, k < 256 → f < 3 → Z[2 + k * 3 + f]? = [Value.int .i64 0, Value.int .i64 0, Value.bool false][f]? := fun k f hk hf => by rw [eZ]; simpa using pxZ_at srv k f hk hf
  have z4 : Z[4]? = some (.bool false) := zk 0 2 (by omega) (by omega)
  have zl : Z.size = 771 := by rw [eZ]; simpa using pxZ_len srv
  have zw : Z[770]? = some (.slice none 0 0) := by rw [eZ]; simpa using pxZ_last srv
  rw [← eZ] at hrun
  clear eZ
  have HZ : Hid _ := And.intro z0 (And.intro z1 (And.intro zk (And.intro zl zw)))
  have HR : Hid _ := hrun
  clear z0 z1 zk zl zw hrun
  go_enter Try.func17, Try.ntmps17
  go_wp2_with (refine wpList_build1 rfl 60 (.tmp 4) rfl (.bool srv) rfl Z HR.out ?_)
  go_ret
  obtain ⟨z0, z1, zk, zl, zw⟩ := HZ.out
  refine ⟨rfl, ⟨.slice none 0 0, ⟨_, heap_alloc_new _ _, by rw [Array.size_setIfInBounds]; exact zl, ?_, ?_, fun k hk => ⟨?_, ?_, ?_⟩, ?_⟩, OffR.nil _ _ _ _⟩, (Below.refl _ _).alloc (Nat.le_refl _) _⟩
  · rw [arr_set, if_neg (by omega)]; exact z0
  · rw [arr_set, if_neg (by omega)]; exact z1
  · rw [arr_set, if_neg (by omega)]; exact zk k 0 hk (by omega)
  · rw [arr_set, if_neg (by omega)]; exact zk k 1 hk (by omega)
  · show _ = some (Value.bool (updF (fun _ => false) 0 (!srv) k))
    by_cases e : k = 0
    · subst e; rw [arr_set, if_pos ⟨by omega, by omega⟩, updF_at]
    · rw [arr_set, if_neg (by omega), updF_ne _ _ _ _ e]; exact zk k 2 hk (by omega)
  · rw [arr_set, if_neg (by omega)]; exact zw
set_option maxRecDepth 20000 in
set_option maxHeartbeats 2000000 in
theorem implPR (srv : Bool) (v : Value) (R : List SPathOp) (w : World) (row : BRow 4 SPathOp.c SPathOp.d w v R)
    (hd : ∀ j, j < R.length → (R.getD j default).d.length ≤ 1048576) (hby : ∀ j, ∀ x ∈ (R.getD j default).f3, 0 ≤ x ∧ x < 256) (hl : R.length ≤ 140737488355328) :
    Calls Try.prog 6 #[.bool srv, v] w fun e w' => ∃ r, e = .returned (.tuple #[r, .int .i64 (prC R)]) ∧ GOwns 32 5 w' w.heap.size r (SPathObs.L (prY srv R)) ∧ Below w.heap.size w w' := by
  obtain ⟨ao, cp, ev⟩ := row.form
  by_cases a1 : 300 < R.length
  · have e1 : prC R = 4 := by unfold prC; rw [if_pos a1]
    have e2 : prY srv R = [] := by unfold prY; rw [if_pos a1]
    rw [e1, e2, ev]
    have a1' : (300 : Int) < (R.length : Int) := by omega
    generalize R.length = n at *
    clear row hd hby
    go_enter Try.func6, Try.ntmps6
    go_wp2
    go_ret2
    exact ⟨_, rfl, ⟨[], World.ownsRow_nil _ _ _ _, fun j hj => absurd hj (by simp)⟩, Below.refl _ _⟩
  have e1 : prC R = 0 := by unfold prC; rw [if_neg a1]
  have e2 : prY srv R = (List.range R.length).map (pobsAt srv R) := by unfold prY; rw [if_neg a1]
  rw [e1, e2]
  have C := newP srv w.heap.size w (Nat.le_refl _)
  have C2 : ∀ w1 : World, PRep w1 w.heap.size w.heap.size (px0 srv) → Below w.heap.size w w1 → Calls Try.prog 16 #[v, .func (.func 18) #[.pointer (some ⟨w.heap.size, 0, none⟩)] #[]] w1 fun e w' => ∃ r, e = .returned r ∧ GOwns 32 5 w' w.heap.size r (SPathObs.L ((List.range R.length).map (pobsAt srv R))) ∧ Below w.heap.size w w' := fun w1 hr hb =>
    runAllP w.heap.size srv v R w w1 hb (Nat.le_refl _) row (by omega) hd hby hr
  have a1' : ¬ (300 : Int) < (R.length : Int) := by omega
  have HH : Hid _ := And.intro C C2
  rw [ev] at HH ⊢
  generalize (List.range R.length).map (pobsAt srv R) = Y at *
  generalize R.length = n at *
  clear row hd hby C C2 e1 e2 ev hl
  go_enter Try.func6, Try.ntmps6
  go_wp2_with (first | (go_at_call 17; refine HH.out.1.mono ?_; rintro e w1 ⟨rfl, r1, b1⟩) | (go_at_call 16; refine (HH.out.2 _ r1 b1).mono ?_; rintro e w2 ⟨r, rfl, o2, b2⟩))
  go_ret2
  exact ⟨_, rfl, o2, b2⟩
end Go.Proofs.Ytdoglkjhmaiknaa
