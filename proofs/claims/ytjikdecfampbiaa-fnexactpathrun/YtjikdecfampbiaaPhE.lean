import Derived.Test.YtjikdecfampbiaaPhD
namespace Go.Proofs.Ytjikdecfampbiaa
open Go.RowKit
set_option linter.unusedVariables false
set_option linter.unusedSimpArgs false

theorem take_idx {α : Type} (L : List α) (p : α → Bool) (h : L.findIdx p < L.length) : (L.take (L.findIdx p + 1)).filter (fun c => !p c) = L.take (L.findIdx p) := by
  rw [← List.take_append_getElem h, List.filter_append]
  have h1 : p L[L.findIdx p] = true := List.findIdx_getElem
  have h2 : (L.take (L.findIdx p)).filter (fun c => !p c) = L.take (L.findIdx p) := by
    rw [List.filter_eq_self]
    intro a ha
    obtain ⟨j, hj, rfl⟩ := List.getElem_of_mem ha
    rw [List.length_take] at hj
    rw [List.getElem_take]
    have := List.not_of_lt_findIdx (p := p) (xs := L) (show j < L.findIdx p by omega)
    simp [this]
  rw [h2]
  simp [h1]
theorem filter_none {α : Type} (L : List α) (p : α → Bool) (h : ¬ L.findIdx p < L.length) : L.filter (fun c => !p c) = L := by
  rw [List.filter_eq_self]
  have he : L.findIdx p = L.length := by have := List.findIdx_le_length (p := p) (xs := L); omega
  intro a ha
  have := List.findIdx_eq_length.1 he a ha
  simp [this]
theorem chalOne : ∀ u ∈ (Value.agg #[.int .u8 0, .int .u8 0, .int .u8 0, .int .u8 0, .int .u8 0, .int .u8 0, .int .u8 0, .int .u8 0, .int .i64 0]).cells.toList, u.oneCell' = true := by
  intro u hu
  have h : u = .int .u8 0 ∨ u = .int .i64 0 := by simpa [Value.cells] using hu
  rcases h with rfl | rfl <;> rfl
/-- Amid a deletion: i are kept of the first j. -/
structure DelJ (L : List (List Int × Nat)) (p : List Int × Nat → Bool) (g o cap base : Nat) (w wr : World) (i j : Nat) (cur : Array Value) : Prop where
  bk : wr.heap[g]? = some (.cells cur 80 (0, 0))
  sz : cur.size = o + cap * 9
  lo : ∀ k f, k < i → f < 9 → cur[o + (k * 9 + f)]? = ((((L.take j).filter (fun c => !p c)).map wrow).getD k [])[f]?
  hi : ∀ k f, j ≤ k → k < L.length → f < 9 → cur[o + (k * 9 + f)]? = ((L.map wrow).getD k [])[f]?
  le : i = ((L.take j).filter (fun c => !p c)).length
  ij : i < j
  jn : j ≤ L.length
  ch : ChS (fun _ => False) 80 base w wr
section
variable {L : List (List Int × Nat)} {p : List Int × Nat → Bool} {g o cap base : Nat} {w wr w' : World} {i j : Nat} {cur : Array Value}
theorem DelJ.below (h : DelJ L p g o cap base w wr i j cur) (hb : Below wr.heap.size wr w') : DelJ L p g o cap base w w' i j cur :=
  ⟨(hb.block g (Array.getElem?_eq_some_iff.1 h.bk).1).trans h.bk, h.sz, h.lo, h.hi, h.le, h.ij, h.jn, h.ch.trans (ChS.of_below hb)⟩
theorem DelJ.gone (h : DelJ L p g o cap base w wr i j cur) (hj : j < L.length) (hp : p (L.getD j default) = true) : DelJ L p g o cap base w wr i (j + 1) cur := by
  have e : (L.take (j + 1)).filter (fun c => !p c) = (L.take j).filter (fun c => !p c) := by
    have hp' : p L[j] = true := by simpa [List.getD, hj] using hp
    rw [← List.take_append_getElem hj, List.filter_append]
    simp [hp']
  exact ⟨h.bk, h.sz, fun k f hk hf => by rw [e]; exact h.lo k f hk hf, fun k f h1 h2 hf => h.hi k f (by omega) h2 hf, by rw [e]; exact h.le, by have := h.ij; omega, hj, h.ch⟩
theorem DelJ.kept (h : DelJ L p g o cap base w wr i j cur) (hj : j < L.length) (hp : p (L.getD j default) = false) (hg : base ≤ g) (hc : L.length ≤ cap) (h9 : (wrow (L.getD j default)).length = 9) : ∃ cur', DelJ L p g o cap base w (wr.setCells g (o + i * 9) (wrow (L.getD j default))) (i + 1) (j + 1) cur' := by
  have e : (L.take (j + 1)).filter (fun c => !p c) = (L.take j).filter (fun c => !p c) ++ [L.getD j default] := by
    have hp' : p L[j] = false := by simpa [List.getD, hj] using hp
    rw [← List.take_append_getElem hj, List.filter_append]
    simp [hp', List.getD, hj]
  obtain ⟨cur', q1, q2, q3⟩ := heap_setCells g 80 (0, 0) (wrow (L.getD j default)) (o + i * 9) wr cur h.bk
  have hij := h.ij
  have hsz := h.sz
  have bnd : ∀ k f, k < L.length → f < 9 → o + (k * 9 + f) < cur.size := fun k f hk hf => by rw [hsz]; omega
  refine ⟨cur', q1, by rw [q2]; exact h.sz, fun k f hk hf => ?_, fun k f h1 h2 hf => ?_, ?_, by omega, hj, h.ch.trans (ChS.of_grown (grown_setCells g _ _ _) (fun k hk => by obtain rfl : g = k := Option.some.inj hk; exact ⟨hg, _, _, h.bk⟩))⟩
  · rw [q3 _ (bnd k f (by omega) hf), e, List.map_append]
    have hl : (((L.take j).filter (fun c => !p c)).map wrow).length = i := by rw [List.length_map]; exact h.le.symm
    by_cases c : k = i
    · subst c
      rw [if_pos ⟨by omega, by rw [h9]; omega⟩, show o + (k * 9 + f) - (o + k * 9) = f by omega]
      simp [List.getD, List.getElem?_append_right (show (((L.take j).filter (fun c => !p c)).map wrow).length ≤ k by omega), hl]
    · rw [if_neg (by omega), h.lo k f (by omega) hf]
      simp only [List.getD]
      rw [List.getElem?_append_left (by omega)]
  · rw [q3 _ (bnd k f h2 hf), if_neg (by rw [h9]; omega)]
    exact h.hi k f (by omega) h2 hf
  · rw [e, List.length_append, ← h.le]; rfl
theorem DelJ.done (h : DelJ L p g o cap base w wr i L.length cur) {cur' : Array Value} (hg : base ≤ g) (hcm : cap ≤ maxLen) (hc : L.length ≤ cap) (b : w'.heap[g]? = some (.cells cur' 80 (0, 0))) (s : cur'.size = cur.size) (same : ∀ k, k < o + i * 9 → cur'[k]? = cur[k]?) (gr : wr.grownBy w' (some g)) :
    OffR 80 9 w' base (.slice (some ⟨g, o, none⟩) i cap) ((L.filter (fun c => !p c)).map wrow) ∧ ChS (fun _ => False) 80 base w w' := by
  have hl := h.le
  have hij := h.ij
  have hlo := h.lo
  rw [List.take_length] at hl hlo
  refine ⟨Or.inr ⟨g, o, cap, cur', by rw [List.length_map, ← hl], hg, b, by rw [List.length_map, ← hl]; omega, hcm, by rw [s, h.sz], fun k f hk hf => ?_⟩, h.ch.trans (ChS.of_grown gr (fun k hk => by obtain rfl : g = k := Option.some.inj hk; exact ⟨hg, _, _, h.bk⟩))⟩
  rw [List.length_map, ← hl] at hk
  rw [same _ (by omega)]
  exact hlo k f hk hf
end
set_option maxRecDepth 20000 in
set_option maxHeartbeats 4000000 in
theorem delI (capv : Value) (v : Value) (L : List (List Int × Nat)) (p : List Int × Nat → Bool) (base : Nat) (w : World) (hO : OffR 80 9 w base v (L.map wrow)) (hl : L.length ≤ 4) (h8 : ∀ c ∈ L, c.1.length = 8)
    (hC : ∀ c ∈ L, ∀ u : World, ChS (fun _ => False) 80 base w u → Calls Try.prog 40 #[.agg (wrow c).toArray, capv] u fun e u' => e = .returned (.bool (p c)) ∧ Below u.heap.size u u') :
    Calls Try.prog 39 #[v, .func (.func 40) #[] #[capv]] w fun e w' => ∃ v', e = .returned v' ∧ OffR 80 9 w' base v' ((L.filter (fun c => !p c)).map wrow) ∧ ChS (fun _ => False) 80 base w w' := by
  have IX := idxI2 capv v L p w hO.row hl h8 (fun c hc u hu => hC c hc u (ChS.of_below hu))
  obtain ⟨ao, cp, ev⟩ := hO.form
  obtain ⟨n, en⟩ : ∃ n, n = L.length := ⟨_, rfl⟩
  rw [List.length_map, ← en] at ev
  have hn4 : n ≤ 4 := by omega
  by_cases hx : L.findIdx p < L.length
  case neg =>
    have er : idxR L p = -1 := by unfold idxR; rw [if_neg hx]
    have ef := filter_none L p hx
    rw [er] at IX
    have HH : Hid _ := And.intro IX (And.intro hO ef)
    clear IX hO er ef hC hx h8 hl en
    subst ev
    go_enter Try.func39, Try.ntmps39
    go_wp2_with fail
    go_at_call 37
    refine HH.out.1.mono ?_
    rintro e w1 ⟨rfl, b1⟩
    have H1 : Hid _ := And.intro b1 True.intro
    clear b1
    go_wp2_with fail
    go_ret
    exact ⟨_, rfl, by rw [HH.out.2.2]; exact HH.out.2.1.below H1.out.1, ChS.of_below H1.out.1⟩
  case pos =>
  obtain ⟨ix, eix⟩ : ∃ ix, ix = L.findIdx p := ⟨_, rfl⟩
  have er : idxR L p = (ix : Int) := by unfold idxR; rw [if_pos hx, eix]
  rw [er] at IX
  rcases id hO with ⟨_, h0⟩ | ⟨g, o, cap, cur, e, hg, hb, hnc, hcm, hsz, hcl⟩
  · exact absurd (by simpa using h0 : L = []) (by intro z; subst z; exact absurd hx (by simp))
  rw [List.length_map] at e hnc hcl
  have J0 : ∀ w1 : World, Below w.heap.size w w1 → DelJ L p g o cap base w w1 ix (ix + 1) cur := fun w1 b1 =>
    ⟨(b1.block g (Array.getElem?_eq_some_iff.1 hb).1).trans hb, hsz, fun k f hk hf => by
      rw [eix, take_idx L p hx, hcl k f (by omega) hf]
      have hk2 : k < L.length := by omega
      simp [List.getD, hk2, show k < L.findIdx p by omega], fun k f h1 h2 hf => hcl k f h2 hf, by rw [eix, take_idx L p hx, List.length_take]; omega, by omega, by omega, ChS.of_below b1⟩
  have hixn : ix + 1 ≤ n := by omega
  have hne : ((ix : Int) == -1) = false := by simp
  rw [← en] at e
  have ev2 := e
  rw [ev] at ev2
  simp only [Value.slice.injEq] at ev2
  obtain ⟨rfl, -, rfl⟩ := ev2
  have hncp : n ≤ cp := by omega
  have HH : Hid _ := And.intro IX (And.intro J0 (And.intro hC (And.intro h8 (And.intro en (And.intro hg hcm)))))
  clear IX J0 hC h8 hl en hg hO hb hcl hsz e er eix hx hnc hcm
  subst ev
  go_enter Try.func39, Try.ntmps39
  go_wp2_with fail
  go_at_call 37
  refine HH.out.1.mono ?_
  rintro e w1 ⟨rfl, b1⟩
  have H1 : Hid _ := And.intro (HH.out.2.1 w1 b1) True.intro
  clear b1
  go_wp2_with fail
  go_loopg [5, 6, 7] (n - (ix + 1)) (fun r x y z wr => ∃ (i j : Nat) (cur : Array Value), r = n - j ∧ x = .int .i64 (i : Int) ∧ y = .int .i64 (j : Int) ∧ DelJ L p g o cp base w wr i j cur)
  case atStart => exact ⟨ix, ix + 1, cur, rfl, rfl, by go_num, H1.out.1⟩
  case round =>
    obtain ⟨i, j, cur, hq, rfl, rfl, J⟩ := hrel
    have hij := J.ij
    have hjn : j ≤ n := by have := J.jn; have := HH.out.2.2.2.2.1; omega
    by_cases hlt : j < n
    · have hlt2 : j < L.length := by have := HH.out.2.2.2.2.1; omega
      have hmem : L.getD j default ∈ L := getD_mem _ _ _ hlt2
      obtain ⟨x0, x1, x2, x3, x4, x5, x6, x7, ec⟩ := wrow9 (HH.out.2.2.2.1 _ hmem)
      have r0 : wr.cell? ⟨g, o + j * 9, none⟩ = some (.int .u8 x0) := by rw [bk_cell J.bk]; have t := J.hi j 0 (Nat.le_refl _) hlt2 (by omega); rw [map_at wrow L default j hlt2, ec] at t; exact t
      have r1 : wr.cell? ⟨g, o + j * 9 + 1, none⟩ = some (.int .u8 x1) := by rw [bk_cell J.bk]; have t := J.hi j 1 (Nat.le_refl _) hlt2 (by omega); rw [map_at wrow L default j hlt2, ec] at t; exact t
      have r2 : wr.cell? ⟨g, o + j * 9 + 2, none⟩ = some (.int .u8 x2) := by rw [bk_cell J.bk]; have t := J.hi j 2 (Nat.le_refl _) hlt2 (by omega); rw [map_at wrow L default j hlt2, ec] at t; exact t
      have r3 : wr.cell? ⟨g, o + j * 9 + 3, none⟩ = some (.int .u8 x3) := by rw [bk_cell J.bk]; have t := J.hi j 3 (Nat.le_refl _) hlt2 (by omega); rw [map_at wrow L default j hlt2, ec] at t; exact t
      have r4 : wr.cell? ⟨g, o + j * 9 + 4, none⟩ = some (.int .u8 x4) := by rw [bk_cell J.bk]; have t := J.hi j 4 (Nat.le_refl _) hlt2 (by omega); rw [map_at wrow L default j hlt2, ec] at t; exact t
      have r5 : wr.cell? ⟨g, o + j * 9 + 5, none⟩ = some (.int .u8 x5) := by rw [bk_cell J.bk]; have t := J.hi j 5 (Nat.le_refl _) hlt2 (by omega); rw [map_at wrow L default j hlt2, ec] at t; exact t
      have r6 : wr.cell? ⟨g, o + j * 9 + 6, none⟩ = some (.int .u8 x6) := by rw [bk_cell J.bk]; have t := J.hi j 6 (Nat.le_refl _) hlt2 (by omega); rw [map_at wrow L default j hlt2, ec] at t; exact t
      have r7 : wr.cell? ⟨g, o + j * 9 + 7, none⟩ = some (.int .u8 x7) := by rw [bk_cell J.bk]; have t := J.hi j 7 (Nat.le_refl _) hlt2 (by omega); rw [map_at wrow L default j hlt2, ec] at t; exact t
      have r8 : wr.cell? ⟨g, o + j * 9 + 8, none⟩ = some (.int .i64 ((L.getD j default).2 : Int)) := by rw [bk_cell J.bk]; have t := J.hi j 8 (Nat.le_refl _) hlt2 (by omega); rw [map_at wrow L default j hlt2, ec] at t; exact t
      have hgl : g < wr.heap.size := (Array.getElem?_eq_some_iff.1 J.bk).1
      obtain ⟨a2, ea2⟩ : ∃ a2, a2 = (L.getD j default).2 := ⟨_, rfl⟩
      rw [← ea2] at r8 ec
      obtain ⟨W1, eW1⟩ : ∃ W1, W1 = wr.alloc (.cells #[.int .u8 x0, .int .u8 x1, .int .u8 x2, .int .u8 x3, .int .u8 x4, .int .u8 x5, .int .u8 x6, .int .u8 x7, .int .i64 (a2 : Int)] 80) := ⟨_, rfl⟩
      have bW1 : Below wr.heap.size wr W1 := by rw [eW1]; exact (Below.refl _ _).alloc (Nat.le_refl _) _
      have hnew : W1.heap[wr.heap.size]? = some (.cells #[.int .u8 x0, .int .u8 x1, .int .u8 x2, .int .u8 x3, .int .u8 x4, .int .u8 x5, .int .u8 x6, .int .u8 x7, .int .i64 (a2 : Int)] 80 (0, 0)) := by rw [eW1]; exact heap_alloc_new _ _
      have CL := HH.out.2.2.1 _ hmem W1 (J.ch.trans (ChS.of_below bW1))
      have J1 := J.below bW1
      have h9 : (wrow (L.getD j default)).length = 9 := by rw [ec]; rfl
      rw [ec] at CL
      have HC : Hid _ := And.intro CL (And.intro J1 (And.intro hnew (And.intro h9 ec)))
      rw [eW1] at HC
      clear CL J1 hnew J bW1 ec hmem h9 eW1 ea2
      cases hp : p (L.getD j default) with
      | true =>
        rw [hp] at HC
        go_wp2_with fail
        go_at_call 40
        refine HC.out.1.mono ?_
        rintro e w2 ⟨rfl, b2⟩
        have H3 : Hid _ := And.intro (HC.out.2.1.below b2) True.intro
        clear b2
        go_wp2_with fail
        go_roundg (n - (j + 1))
        case measure => omega
        case rel => exact ⟨i, j + 1, cur, rfl, rfl, by go_num, H3.out.1.gone hlt2 hp⟩
      | false =>
        rw [hp] at HC
        go_wp2_with fail
        go_at_call 40
        refine HC.out.1.mono ?_
        rintro e w2 ⟨rfl, b2⟩
        have J2 := HC.out.2.1.below b2
        have hn2 : w2.heap[wr.heap.size]? = _ := (b2.block wr.heap.size (Array.getElem?_eq_some_iff.1 HC.out.2.2.1).1).trans HC.out.2.2.1
        have hin : i < n := by omega
        have bnd : ∀ f, f < 9 → ∃ z, cur[o + (i * 9 + f)]? = some z := fun f hf => ⟨_, Array.getElem?_eq_getElem (by have := J2.sz; omega)⟩
        obtain ⟨z0, ez0⟩ := bnd 0 (by omega)
        have s0 : w2.cell? ⟨g, o + i * 9, none⟩ = some z0 := by rw [bk_cell J2.bk]; exact ez0
        have t0 : w2.frozen? ⟨g, o + i * 9, none⟩ = false := bk_free J2.bk _
        have v0 : w2.cell? ⟨wr.heap.size, 0, none⟩ = some (.int .u8 x0) := by rw [bk_cell hn2]; rfl
        obtain ⟨z1, ez1⟩ := bnd 1 (by omega)
        have s1 : w2.cell? ⟨g, o + i * 9 + 1, none⟩ = some z1 := by rw [bk_cell J2.bk]; exact ez1
        have t1 : w2.frozen? ⟨g, o + i * 9 + 1, none⟩ = false := bk_free J2.bk _
        have v1 : w2.cell? ⟨wr.heap.size, 1, none⟩ = some (.int .u8 x1) := by rw [bk_cell hn2]; rfl
        obtain ⟨z2, ez2⟩ := bnd 2 (by omega)
        have s2 : w2.cell? ⟨g, o + i * 9 + 2, none⟩ = some z2 := by rw [bk_cell J2.bk]; exact ez2
        have t2 : w2.frozen? ⟨g, o + i * 9 + 2, none⟩ = false := bk_free J2.bk _
        have v2 : w2.cell? ⟨wr.heap.size, 2, none⟩ = some (.int .u8 x2) := by rw [bk_cell hn2]; rfl
        obtain ⟨z3, ez3⟩ := bnd 3 (by omega)
        have s3 : w2.cell? ⟨g, o + i * 9 + 3, none⟩ = some z3 := by rw [bk_cell J2.bk]; exact ez3
        have t3 : w2.frozen? ⟨g, o + i * 9 + 3, none⟩ = false := bk_free J2.bk _
        have v3 : w2.cell? ⟨wr.heap.size, 3, none⟩ = some (.int .u8 x3) := by rw [bk_cell hn2]; rfl
        obtain ⟨z4, ez4⟩ := bnd 4 (by omega)
        have s4 : w2.cell? ⟨g, o + i * 9 + 4, none⟩ = some z4 := by rw [bk_cell J2.bk]; exact ez4
        have t4 : w2.frozen? ⟨g, o + i * 9 + 4, none⟩ = false := bk_free J2.bk _
        have v4 : w2.cell? ⟨wr.heap.size, 4, none⟩ = some (.int .u8 x4) := by rw [bk_cell hn2]; rfl
        obtain ⟨z5, ez5⟩ := bnd 5 (by omega)
        have s5 : w2.cell? ⟨g, o + i * 9 + 5, none⟩ = some z5 := by rw [bk_cell J2.bk]; exact ez5
        have t5 : w2.frozen? ⟨g, o + i * 9 + 5, none⟩ = false := bk_free J2.bk _
        have v5 : w2.cell? ⟨wr.heap.size, 5, none⟩ = some (.int .u8 x5) := by rw [bk_cell hn2]; rfl
        obtain ⟨z6, ez6⟩ := bnd 6 (by omega)
        have s6 : w2.cell? ⟨g, o + i * 9 + 6, none⟩ = some z6 := by rw [bk_cell J2.bk]; exact ez6
        have t6 : w2.frozen? ⟨g, o + i * 9 + 6, none⟩ = false := bk_free J2.bk _
        have v6 : w2.cell? ⟨wr.heap.size, 6, none⟩ = some (.int .u8 x6) := by rw [bk_cell hn2]; rfl
        obtain ⟨z7, ez7⟩ := bnd 7 (by omega)
        have s7 : w2.cell? ⟨g, o + i * 9 + 7, none⟩ = some z7 := by rw [bk_cell J2.bk]; exact ez7
        have t7 : w2.frozen? ⟨g, o + i * 9 + 7, none⟩ = false := bk_free J2.bk _
        have v7 : w2.cell? ⟨wr.heap.size, 7, none⟩ = some (.int .u8 x7) := by rw [bk_cell hn2]; rfl
        obtain ⟨z8, ez8⟩ := bnd 8 (by omega)
        have s8 : w2.cell? ⟨g, o + i * 9 + 8, none⟩ = some z8 := by rw [bk_cell J2.bk]; exact ez8
        have t8 : w2.frozen? ⟨g, o + i * 9 + 8, none⟩ = false := bk_free J2.bk _
        have v8 : w2.cell? ⟨wr.heap.size, 8, none⟩ = some (.int .i64 (a2 : Int)) := by rw [bk_cell hn2]; rfl
        have H3 : Hid _ := And.intro J2 True.intro
        clear b2 J2 hn2 bnd r0 r1 r2 r3 r4 r5 r6 r7 r8 ez0 ez1 ez2 ez3 ez4 ez5 ez6 ez7 ez8
        go_wp2_with fail
        go_roundg (n - (j + 1))
        case measure => omega
        case rel =>
          obtain ⟨cur', J'⟩ := H3.out.1.kept hlt2 hp HH.out.2.2.2.2.2.1 (by have := HH.out.2.2.2.2.1; omega) HC.out.2.2.2.1
          rw [HC.out.2.2.2.2] at J'
          exact ⟨i + 1, j + 1, cur', rfl, by go_num, by go_num, J'⟩
    · obtain rfl : j = n := by omega
      have hin : i < j := hij
      have hcpi : ¬ cp = i := by omega
      have H2 : Hid _ := And.intro J True.intro
      have hfit : o + i * 9 + (j - i) * 9 ≤ cur.size := by have := J.sz; omega
      have hbk := J.bk
      have HB : Hid _ := And.intro hbk hfit
      clear J hbk hfit
      go_wp2_with (refine wpList_clear_off rfl (.tmp 38) 63 80 rfl g (o + i * 9) (j - i) (cp - i) 9 cur 80 _ 16 Try.underlying63 infoChal rfl (by decide) chalOne rfl HB.out.1 HB.out.2 ?_; intro w5 cur5 k1 k2 k3 k4; have H5 : Hid _ := And.intro k1 (And.intro k2 (And.intro k3 k4)); clear k1 k2 k3 k4)
      go_wp2_with fail
      go_ret
      have en := HH.out.2.2.2.2.1
      have J := H2.out.1
      rw [en] at J
      exact ⟨_, rfl, J.done HH.out.2.2.2.2.2.1 HH.out.2.2.2.2.2.2 (by omega) H5.out.1 H5.out.2.1 H5.out.2.2.1 H5.out.2.2.2⟩
end Go.Proofs.Ytjikdecfampbiaa
