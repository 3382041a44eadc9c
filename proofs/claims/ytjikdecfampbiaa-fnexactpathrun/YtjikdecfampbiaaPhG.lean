import Derived.Test.YtjikdecfampbiaaPhF
namespace Go.Proofs.Ytjikdecfampbiaa
open Go.RowKit
set_option linter.unusedVariables false
set_option linter.unusedSimpArgs false

def answM (m : PX) (D : List Int) : PX := if wat m.ws D < m.ws.length then { m with va := updF m.va (m.ws.getD (wat m.ws D) default).2 true, ws := wdel m.ws (m.ws.getD (wat m.ws D) default).2 } else m
set_option maxRecDepth 20000 in
set_option maxHeartbeats 4000000 in
theorem answI (g base : Nat) (m : PX) (v : Value) (D : List Int) (i : Nat) (w : World) (h : PRep w g base m) (hg : base ≤ g) (hI : PXI i m) (hr : Row w .u8 v D) (hl : D.length ≤ 1048576) (hbase : base ≤ w.heap.size) :
    Calls Try.prog 32 #[.pointer (some ⟨g, 0, none⟩), v] w fun e w' => e = .returned (.tuple #[.bool (decide (D.length = 8 ∧ wat m.ws D < m.ws.length)), .int .i64 (if D.length ≠ 8 then 1 else 0)]) ∧ PDo g base w w' (if D.length ≠ 8 then m else answM m D) := by
  by_cases h8 : D.length = 8
  case neg =>
    rw [if_pos h8, if_pos h8, decide_eq_false (fun e => h8 e.1)]
    obtain ⟨ao, cp, rfl⟩ := hr.form
    have hne : ((D.length : Int) != 8) = true := by simp; omega
    have HH : Hid _ := h
    clear hr h h8
    generalize D.length = n at *
    go_enter Try.func32, Try.ntmps32
    go_wp2
    go_ret2
    exact ⟨rfl, HH.out, ChS.refl _ _ _ _⟩
  rw [if_neg (fun e => e h8), if_neg (fun e => e h8)]
  have hd : decide (D.length = 8 ∧ wat m.ws D < m.ws.length) = decide (wat m.ws D < m.ws.length) := by simp [h8]
  rw [hd]
  clear hd
  obtain ⟨x0, x1, x2, x3, x4, x5, x6, x7, rfl⟩ := len8 h8
  obtain ⟨b, off, cap, rfl, hb, hcap, hc⟩ := hr.full (by simp)
  have r0 := hc 0 (by simp)
  have r1 := hc 1 (by simp)
  have r2 := hc 2 (by simp)
  have r3 := hc 3 (by simp)
  have r4 := hc 4 (by simp)
  have r5 := hc 5 (by simp)
  have r6 := hc 6 (by simp)
  have r7 := hc 7 (by simp)
  dsimp only [List.getD, List.getElem?_cons_zero, List.getElem?_cons_succ, Option.getD, Nat.add_zero] at r0 r1 r2 r3 r4 r5 r6 r7
  obtain ⟨wv, hB, hO⟩ := h
  have dw := hB.cw
  have hglt := hB.lt
  obtain ⟨D8, eD⟩ : ∃ D8, D8 = [x0, x1, x2, x3, x4, x5, x6, x7] := ⟨_, rfl⟩
  obtain ⟨W1, eW1⟩ : ∃ W1, W1 = w.alloc (.cells #[.int .u8 x0, .int .u8 x1, .int .u8 x2, .int .u8 x3, .int .u8 x4, .int .u8 x5, .int .u8 x6, .int .u8 x7] 78) := ⟨_, rfl⟩
  have bW1 : Below w.heap.size w W1 := by rw [eW1]; exact (Below.refl _ _).alloc (Nat.le_refl _) _
  have kW1 : W1.heap[w.heap.size]? = some (.cells #[.int .u8 x0, .int .u8 x1, .int .u8 x2, .int .u8 x3, .int .u8 x4, .int .u8 x5, .int .u8 x6, .int .u8 x7] 78 (0, 0)) := by rw [eW1]; exact heap_alloc_new _ _
  have IX := idxI1 (.pointer (some ⟨w.heap.size, 0, none⟩)) wv m.ws (fun c => decide (c.1 = D8)) W1 (hO.below bW1).row hI.wl (fun c hc => (hI.wd c hc).1) (fun c hc u hu => by
    rw [eD]
    exact clo1 c x0 x1 x2 x3 x4 x5 x6 x7 w.heap.size u ((hu.block _ (Array.getElem?_eq_some_iff.1 kW1).1).trans kW1) (hI.wd c hc).1)
  have hsa : ∀ W : World, (Instr.arrayAt 78 (.slice (some ⟨b, off, none⟩) 8 cap)).run Try.prog W = .ok (.pointer (some ⟨b, off, none⟩)) W := fun W => by simp [Instr.arrayAt, run_underlying Try.underlying78]
  have hmf : ∀ (fn : Fn) (first cap : Array Value) (w : World), (Instr.makeFunc fn first cap).run Try.prog w = .ok (.func fn first cap) w := fun _ _ _ _ => rfl
  rw [← eD]
  have hl8 : D8.length = 8 := by rw [eD]; rfl
  rw [hl8]
  clear hl8
  by_cases hf : wat m.ws D8 < m.ws.length
  case neg =>
    have er : idxR m.ws (fun c => decide (c.1 = D8)) = -1 := by unfold idxR; exact if_neg hf
    rw [er, eW1] at IX
    have e2 : answM m D8 = m := by unfold answM; rw [if_neg hf]
    rw [decide_eq_false hf, e2]
    rw [eW1] at bW1
    have HH : Hid _ := And.intro IX (And.intro hB (And.intro hO bW1))
    obtain ⟨wa, wcp, ew⟩ := hO.form
    generalize (m.ws.map wrow).length = wn at ew
    clear IX hB hO bW1 kW1 er e2 hf hI hc hr eD eW1
    subst ew
    go_enter Try.func32, Try.ntmps32
    go_wp2_with fail
    go_at_call 37
    refine HH.out.1.mono ?_
    rintro e w2 ⟨rfl, b2⟩
    have H2 : Hid _ := And.intro (HH.out.2.2.2.trans (b2.mono HH.out.2.2.2.size)) True.intro
    clear b2
    go_wp2_with fail
    go_ret2
    exact ⟨rfl, ⟨_, HH.out.2.1.same (H2.out.1.block g HH.out.2.1.lt), HH.out.2.2.1.below H2.out.1⟩, ChS.of_below H2.out.1⟩
  case pos =>
  obtain ⟨k, ek⟩ : ∃ k, k = wat m.ws D8 := ⟨_, rfl⟩
  have er : idxR m.ws (fun c => decide (c.1 = D8)) = (k : Int) := by unfold idxR; rw [ek]; exact if_pos hf
  rw [er, eW1] at IX
  obtain ⟨ad, ead⟩ : ∃ ad, ad = (m.ws.getD k default).2 := ⟨_, rfl⟩
  have hkl : k < m.ws.length := by omega
  have hmem : m.ws.getD k default ∈ m.ws := getD_mem _ _ _ hkl
  have had : ad < 256 := by rw [ead]; exact (hI.wd _ hmem).2
  have h9 : (m.ws.getD k default).1.length = 8 := (hI.wd _ hmem).1
  have e2 : answM m D8 = { m with va := updF m.va ad true, ws := m.ws.filter (fun c => !decide (c.2 = ad)) } := by unfold answM; rw [if_pos hf, ← ek, ← ead]; rfl
  rw [decide_eq_true hf, e2]
  rw [eW1] at bW1
  have hw5 := hI.wl
  have hbnd : (k : Int) < (m.ws.length : Int) := by omega
  obtain ⟨wa, wcp, ew⟩ := hO.form
  rw [List.length_map] at ew
  obtain ⟨gw, ow, cw, ewa, hcw⟩ : ∃ gw ow cw, wv = .slice (some ⟨gw, ow, none⟩) m.ws.length cw ∧ w.cell? ⟨gw, ow + k * 9 + 8, none⟩ = some (.int .i64 (ad : Int)) := by
    rcases hO with ⟨_, h0⟩ | ⟨gw, ow, cw, cur, e, q1, q2, q3, q4, q5, q6⟩
    · rw [List.map_eq_nil_iff] at h0; rw [h0] at hkl; simp at hkl
    · rw [List.length_map] at e
      refine ⟨gw, ow, cw, e, ?_⟩
      rw [bk_cell q2]
      have t := q6 k 8 (by rw [List.length_map]; exact hkl) (by omega)
      rw [map_at wrow m.ws default k hkl] at t
      obtain ⟨y0, y1, y2, y3, y4, y5, y6, y7, ec⟩ := wrow9 h9
      rw [ec, ← ead] at t
      exact t
  have hgw : gw < w.heap.size := World.block_lt_of_cell? _ _ hcw
  have CD : ∀ (u : World) (q : Nat), OffR 80 9 u base wv (m.ws.map wrow) → u.heap[q]? = some (.cells #[.int .i64 (ad : Int)] 3 (0, 0)) → base ≤ q → _ := fun u q ho hq hbq => delI (.pointer (some ⟨q, 0, none⟩)) wv m.ws (fun c => decide (c.2 = ad)) base u ho hI.wl (fun c hc => (hI.wd c hc).1) (fun c hc u' hu => clo2 c ad q u' (hu.bk hq (Or.inr ⟨fun e => e, by decide⟩)) (hI.wd c hc).1)
  have HH : Hid _ := And.intro IX (And.intro hB (And.intro hO (And.intro bW1 CD)))
  generalize m.ws.length = wn at *
  clear IX hB hO bW1 kW1 er e2 hf hc hr eD eW1 ek ead hkl hmem h9 ew CD hI
  subst ewa
  go_enter Try.func32, Try.ntmps32
  go_wp2_with fail
  go_at_call 37
  refine HH.out.1.mono ?_
  rintro e w2 ⟨rfl, b2⟩
  have b02 := HH.out.2.2.2.1.trans (b2.mono HH.out.2.2.2.1.size)
  have B2 := HH.out.2.1.same (b02.block g hglt)
  have d2 : w2.cell? ⟨g, 770, none⟩ = _ := (b02.cell (p := ⟨g, 770, none⟩) hglt).trans dw
  have k2 : w2.cell? ⟨gw, ow + k * 9 + 8, none⟩ = _ := (b02.cell (p := ⟨gw, ow + k * 9 + 8, none⟩) hgw).trans hcw
  have hg2 : g < w2.heap.size := Nat.lt_of_lt_of_le hglt b02.size
  have hgw2 : gw < w2.heap.size := Nat.lt_of_lt_of_le hgw b02.size
  have va2 := (B2.ck ad had).2.2
  have fa2 := B2.free (2 + ad * 3 + 2)
  have f72 := B2.free 770
  have H2 : Hid _ := And.intro b02 B2
  have hadI : (ad : Int) < 256 := by omega
  clear b2 b02 B2 r0 r1 r2 r3 r4 r5 r6 r7 dw hcw
  go_wp2_with fail
  go_region
  obtain ⟨W3, eW3⟩ : ∃ W3, W3 = ((w2.setCell ⟨g, 2 + ad * 3 + 2, none⟩ (.bool true)).alloc (.cells #[.int .i64 (ad : Int)] 3)).drew := ⟨_, rfl⟩
  have B3 := H2.out.2.setVa ad had true
  have hsz : (w2.setCell ⟨g, 2 + ad * 3 + 2, none⟩ (.bool true)).heap.size = w2.heap.size := setCell_size _ _ _
  have b3 : Below w2.heap.size (w2.setCell ⟨g, 2 + ad * 3 + 2, none⟩ (.bool true)) W3 := by
    rw [eW3]
    have t : Below (w2.setCell ⟨g, 2 + ad * 3 + 2, none⟩ (.bool true)).heap.size (w2.setCell ⟨g, 2 + ad * 3 + 2, none⟩ (.bool true)) _ := below_drewN ((Below.refl _ _).alloc (Nat.le_refl _) (.cells #[.int .i64 (ad : Int)] 3)) 1
    rw [hsz] at t
    exact t
  have k3 : W3.heap[w2.heap.size]? = some (.cells #[.int .i64 (ad : Int)] 3 (0, 0)) := by
    rw [eW3]
    have t := heap_alloc_new (w2.setCell ⟨g, 2 + ad * 3 + 2, none⟩ (.bool true)) (.cells #[.int .i64 (ad : Int)] 3)
    rw [hsz] at t
    exact t
  have B3' := B3.same (b3.block g hg2)
  have o2 := HH.out.2.2.1.below H2.out.1
  have O3 := (H2.out.2.off (i := 2 + ad * 3 + 2) (u := .bool true) o2).below (by rw [hsz]; exact b3)
  have CL := HH.out.2.2.2.2 W3 w2.heap.size O3 k3 (Nat.le_trans hbase H2.out.1.size)
  have C3 : ChS (fun k => k = g) 80 base w W3 := ((ChS.of_below H2.out.1).setG hg _ _).trans (ChS.of_below (by rw [hsz]; exact b3))
  have H3 : Hid _ := And.intro CL (And.intro B3' C3)
  rw [eW3] at H3
  clear B3 b3 k3 B3' o2 O3 CL C3 eW3 hsz
  go_wp2_with fail
  go_at_call 39
  refine H3.out.1.mono ?_
  rintro e w4 ⟨v4, rfl, o4, c4⟩
  have B4 := H3.out.2.1.chg c4 (fun e => e)
  obtain ⟨a4, p4, e4⟩ := o4.form
  obtain ⟨n4, en4⟩ : ∃ n4, n4 = (List.map wrow (List.filter (fun c => !decide (c.2 = ad)) m.ws)).length := ⟨_, rfl⟩
  rw [← en4] at e4
  have d4 := B4.cw
  have f4 := B4.free 770
  have H4 : Hid _ := And.intro B4 (And.intro o4 (And.intro c4 e4))
  clear B4 o4 c4 en4
  subst e4
  go_wp2_with fail
  go_ret2
  exact ⟨rfl, ⟨_, H4.out.1.setW _ _, H4.out.1.off H4.out.2.1⟩, (H3.out.2.2.trans (H4.out.2.2.1.mono (fun k hk => hk.elim))).setG hg _ _⟩
end Go.Proofs.Ytjikdecfampbiaa
