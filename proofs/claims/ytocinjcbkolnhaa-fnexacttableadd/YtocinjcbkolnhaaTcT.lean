import Derived.Test.YtocinjcbkolnhaaTcL
namespace Go.Proofs.Ytocinjcbkolnhaa
open Go.RowKit
set_option linter.unusedVariables false

theorem rc_setF : ∀ (L : List SField) (j : Nat) (b v : ByteArray), ((rcF L).set (j * 2) (.string b)).set (j * 2 + 1) (.string v) = rcF (L.set j ⟨b, v⟩)
  | [], j, b, v => by simp [rcF]
  | x :: r, 0, b, v => by simp [rcF]
  | x :: r, j + 1, b, v => by
    have := rc_setF r j b v
    rw [show (j + 1) * 2 = j * 2 + 1 + 1 by omega]
    simpa [rcF] using this
theorem rgBF.put {w : World} {E : Nat} {P : List SField} (h : rgBF w E P) (j : Nat) (a c : ByteArray) : rgBF ((w.setCell ⟨E, j * 2, none⟩ (.string a)).setCell ⟨E, j * 2 + 1, none⟩ (.string c)) E (P.set j ⟨a, c⟩) := by
  unfold rgBF
  rw [bk_set (bk_set h (j * 2) _) (j * 2 + 1) _, ← rc_setF]
  simp
theorem rgBF.at {w : World} {E : Nat} {P : List SField} (h : rgBF w E P) (j : Nat) (hj : j < P.length) : w.cell? ⟨E, j * 2, none⟩ = some (.string (P.getD j default).f0) ∧ w.cell? ⟨E, j * 2 + 1, none⟩ = some (.string (P.getD j default).f1) ∧ w.frozen? ⟨E, j * 2, none⟩ = false ∧ w.frozen? ⟨E, j * 2 + 1, none⟩ = false :=
  ⟨by rw [bk_cell h, List.getElem?_toArray]; exact rc_get0F P j hj, by rw [bk_cell h, List.getElem?_toArray]; exact rc_get1F P j hj, bk_free h _, bk_free h _⟩
theorem mkF (n : Nat) (hm : n ≤ 1099511627776) (W : World) : (Instr.makeSlice 29 (.int .i64 (n : Int)) (.int .i64 (n : Int))).run Try.prog W = .ok (.slice (some ⟨W.heap.size, 0, none⟩) n n) (W.alloc (.cells (rcF (List.replicate n default)).toArray 35)) := by
  obtain ⟨i0, hi, hz0, hz1, hz2⟩ := info_parts infoFd3
  have hr := run_make (P := Try.prog) W 29 35 i0 (.agg #[.string ⟨#[]⟩, .string ⟨#[]⟩]) Try.underlying29 hi hz0 .i64 .i64 (n : Int) (n : Int) (by omega) (by omega) (by rw [hz2]; omega) (by omega)
  simp only [Int.toNat_natCast, hz1] at hr
  have hcl : (Value.agg #[.string ⟨#[]⟩, .string ⟨#[]⟩]).cells = #[.string ⟨#[]⟩, .string ⟨#[]⟩] := rfl
  rw [hcl, made_arF] at hr
  exact hr
/-- What is told so far. -/
def TP (P L : List SField) (n k : Nat) : Prop := P.length = n ∧ ∀ j, j < k → P.getD j default = L.getD j default
theorem TP.put {P L : List SField} {n k : Nat} (h : TP P L n k) (hk : k < n) : TP (P.set k (L.getD k default)) L n (k + 1) := by
  refine ⟨by rw [List.length_set]; exact h.1, fun j hj => ?_⟩
  by_cases e : j = k
  · subst e
    simp [List.getD, h.1, hk]
  · have := h.2 j (by omega)
    simp only [List.getD, List.getElem?_set_ne (Ne.symm e)]
    exact this
theorem TP.all {P L : List SField} {n : Nat} (h : TP P L n n) (en : L.length = n) : P = L := by
  apply List.ext_getElem (by rw [h.1, en])
  intro i h1 h2
  have := h.2 i (by rw [← en]; exact h2)
  simpa [List.getD, h1, h2] using this
set_option maxRecDepth 20000 in
set_option maxHeartbeats 4000000 in
theorem toldI (G R base f n : Nat) (mo ca ad cost : Int) (RL L : List SField) (w : World) (ot : OT w G R base f mo ca ad cost RL) (hR : RingHas RL f L n) (en : L.length = n) (hn : n ≤ 124) (ht : txs L ≤ 1048576) (ef : ad = (f : Int) + n) (had : ad ≤ 4611686018427387902) :
    Calls Try.prog 28 #[.pointer (some ⟨G, 0, none⟩)] w fun e w' => e = .returned (.agg #[.int .i64 mo, .int .i64 ca, .int .i64 ad, .slice (some ⟨w.heap.size + 1, 0, none⟩) n n]) ∧ rgBF w' (w.heap.size + 1) L ∧ Below w.heap.size w w' := by
  have hfn : ad - (f : Int) = (n : Int) := by omega
  have hf0 : (f : Int) ≤ 4611686018427387902 := by omega
  have hfn4 : f + n ≤ 4611686018427387902 := by omega
  have hmk := mkF n (by omega)
  have A0 := After.new w (.cells #[.int .i64 0, .int .i64 0, .int .i64 0, .slice none 0 0] 31)
  have zal : (w.alloc (.cells #[.int .i64 0, .int .i64 0, .int .i64 0, .slice none 0 0] 31)).heap.size = w.heap.size + 1 := by simp
  obtain ⟨W1, eW1⟩ : ∃ W1, W1 = w.alloc (.cells #[.int .i64 0, .int .i64 0, .int .i64 0, .slice none 0 0] 31) := ⟨_, rfl⟩
  have B1 : Below w.heap.size w W1 := by rw [eW1]; exact A0.below
  have od := (ot.below B1).below (drew_below W1)
  obtain ⟨t0, t1, t2, t3, t4, t5⟩ := od.cells
  obtain ⟨gl, rl, bl⟩ := ot.lt
  have HH : Hid _ := And.intro ot (And.intro hR (And.intro en ht))
  have HA : Hid _ := And.intro A0 (And.intro zal eW1)
  have HE : Hid _ := And.intro ef True.intro
  clear A0 zal B1 od ot hR en ht ef
  go_enter Try.func28, Try.ntmps28
  go_upto_region 1 with fail
  rw [← eW1]
  clear eW1
  go_cut [3] from 5 to 15 (fun cv wx => cv = .slice (some ⟨w.heap.size + 1, 0, none⟩) n n ∧ Below w.heap.size w wx ∧ wx.heap[w.heap.size]? = some (.cells #[.int .i64 0, .int .i64 0, .int .i64 0, .slice none 0 0] 31 (0, 0)) ∧ rgBF wx (w.heap.size + 1) (List.replicate n default))
  case first =>
    go_region
    all_goals
      have z1 : W1.heap.size = w.heap.size + 1 := by rw [HA.out.2.2]; exact HA.out.2.1
      have ba : Below W1.heap.size W1 (W1.alloc (.cells (rcF (List.replicate n default)).toArray 35)) := (Below.refl _ _).alloc (Nat.le_refl _) _
      have bd := ba.trans ((drew_below _).mono ba.size)
      have AA : After w (.cells #[.int .i64 0, .int .i64 0, .int .i64 0, .slice none 0 0] 31) (W1.alloc (.cells (rcF (List.replicate n default)).toArray 35)).drew := by
        refine (show After w _ W1 from ?_).next bd
        rw [HA.out.2.2]
        exact HA.out.1
      have hT := (Below.block AA w.heap.size (by omega)).trans (MapKept.heap_alloc w (.cells #[.int .i64 0, .int .i64 0, .int .i64 0, .slice none 0 0] 31)).1
      have hE : rgBF (W1.alloc (.cells (rcF (List.replicate n default)).toArray 35)).drew W1.heap.size (List.replicate n default) := heap_alloc_new W1 _
      rw [z1] at hE
      have HF : Hid _ := And.intro AA.below (And.intro hT hE)
      clear ba bd AA hT hE
      rw [z1]
      go_wp2_with fail
      go_meet
      exact ⟨rfl, HF.out.1, HF.out.2.1, HF.out.2.2⟩
  case rest =>
    obtain ⟨rfl, hbl, hT, hE⟩ := hcut
    have OO : Hid _ := And.intro hbl (And.intro hT hE)
    clear hbl hT hE t0 t1 t2 t3 t4 t5 hmk HA
    go_wp2_with fail
    go_loopw [18] (fun i wr => ∃ k : Nat, k ≤ n ∧ i = .int .i64 (k : Int) ∧ ∃ P, TP P L n k ∧ rgBF wr (w.heap.size + 1) P ∧ Below w.heap.size w wr ∧ wr.heap[w.heap.size]? = some (.cells #[.int .i64 0, .int .i64 0, .int .i64 0, .slice none 0 0] 31 (0, 0))) (fun i _ => n - (intOf i).toNat)
    case atStart => exact ⟨0, by omega, rfl, _, ⟨by simp, fun j hj => by omega⟩, OO.out.2.2, OO.out.1, OO.out.2.1⟩
    case round =>
      obtain ⟨k, hk, rfl, P, hP, hE, bw, hT⟩ := hrel
      have otd := (HH.out.1.below bw).below (drew_below wr)
      obtain ⟨t0, t1, t2, t3, t4, t5⟩ := otd.cells
      by_cases hlt : k < n
      · have hRk := HH.out.2.1 k hlt
        have hkL : k < L.length := by rw [HH.out.2.2.1]; exact hlt
        have hta := txs_at L k hkL
        have hput := hP.put hlt
        obtain ⟨p, ep⟩ : ∃ p, p = (f + k) % 124 := ⟨_, rfl⟩
        have hp : p < 124 := by omega
        rw [← ep] at hRk
        have hfk2 : f + k ≤ 4611686018427387903 := by omega
        have CW : ∀ u : World, u.cell? ⟨G, 0, none⟩ = some (.slice (some ⟨R, 0, none⟩) 124 124) → Calls Try.prog 33 #[.pointer (some ⟨G, 0, none⟩), .int .i64 (IntKind.i64.wrap ((f : Int) + (k : Int)))] u fun e w' => e = .returned (.pointer (some ⟨R, p * 2, none⟩)) ∧ ∃ m, w' = u.drewN m := fun u h => by
          rw [show IntKind.i64.wrap ((f : Int) + (k : Int)) = ((f + k : Nat) : Int) by rw [IntKind.wrap_i64]; omega]
          have := atF G 0 R (f + k) u h hfk2
          rw [← ep] at this
          exact this
        obtain ⟨v0, v1, v2, v3⟩ := otd.at p hp
        rw [hRk] at v0 v1
        have CC : ∀ u, _ := fun u => cloneF (L.getD k default).f0 (L.getD k default).f1 u (by have := HH.out.2.2.2; omega) (by have := HH.out.2.2.2; omega)
        obtain ⟨F, eF⟩ : ∃ F, F = L.getD k default := ⟨_, rfl⟩
        rw [← eF] at v0 v1 CC hput
        obtain ⟨a, c⟩ := F
        simp only at v0 v1 CC
        have hPk : k < P.length := by rw [hP.1]; exact hlt
        have H1 : Hid _ := And.intro CW (And.intro CC (And.intro hput (And.intro bw (And.intro hE (And.intro hT hPk)))))
        have D0 : Hid _ := And.intro t0 (And.intro v0 v1)
        clear CW CC hput otd bw ep hkL hta hRk eF hE hT hP v0 v1 v2 v3 hPk
        go_upto_region 5 with fail
        go_region_with (first
          | (go_at_call 33; refine (H1.out.1 wr.drew D0.out.1).mono ?_; rintro e wz ⟨rfl, m, hwz⟩; have v0' : wz.cell? ⟨R, p * 2, none⟩ = some (.string a) := (by rw [hwz]; exact D0.out.2.1); have v1' : wz.cell? ⟨R, p * 2 + 1, none⟩ = some (.string c) := (by rw [hwz]; exact D0.out.2.2); have BZ : Hid _ := And.intro (show Below wr.heap.size wr wz by rw [hwz]; exact below_drewN (drew_below wr) m) True.intro; clear hwz)
          | (go_at_call 36; refine (H1.out.2.1 wz).mono ?_; rintro e wy ⟨rfl, by'⟩; have bY := BZ.out.1.trans (by'.mono BZ.out.1.size); have hEy : rgBF wy (w.heap.size + 1) P := (bY.block (w.heap.size + 1) (Array.getElem?_eq_some_iff.1 H1.out.2.2.2.2.1).1).trans H1.out.2.2.2.2.1; obtain ⟨y0, y1, y2, y3⟩ := hEy.at k H1.out.2.2.2.2.2.2; have BY : Hid _ := And.intro hEy (And.intro (H1.out.2.2.2.1.trans (bY.mono H1.out.2.2.2.1.size)) ((bY.block w.heap.size (Array.getElem?_eq_some_iff.1 H1.out.2.2.2.2.2.1).1).trans H1.out.2.2.2.2.2.1)); clear by' bY hEy))
        all_goals
          have H3 : Hid _ := And.intro (BY.out.1.put k a c) (And.intro ((BY.out.2.1.setCell (p := ⟨w.heap.size + 1, k * 2, none⟩) (by show w.heap.size ≤ w.heap.size + 1; omega) (.string a)).setCell (p := ⟨w.heap.size + 1, k * 2 + 1, none⟩) (by show w.heap.size ≤ w.heap.size + 1; omega) (.string c)) ((bk_other (g := w.heap.size + 1) (k := w.heap.size) (by omega) (k * 2 + 1) (.string c)).trans ((bk_other (g := w.heap.size + 1) (k := w.heap.size) (by omega) (k * 2) (.string a)).trans BY.out.2.2)))
          clear t0 t1 t2 t3 t4 t5 y0 y1 y2 y3 v0' v1'
          go_wp2_with fail
          go_roundw
          case rel => exact ⟨k + 1, by omega, by go_num, _, H1.out.2.2.1, H3.out.1, H3.out.2.1, H3.out.2.2⟩
          case measure => simp [intOf]; omega
      · obtain rfl : k = n := by omega
        have ePL := hP.all HH.out.2.2.1
        subst ePL
        have hTd : wr.drew.heap[w.heap.size]? = some (.cells #[.int .i64 0, .int .i64 0, .int .i64 0, .slice none 0 0] 31 (0, 0)) := hT
        have q0 : wr.drew.cell? ⟨w.heap.size, 0, none⟩ = some (.int .i64 0) := by rw [bk_cell hTd]; rfl
        have q1 : wr.drew.cell? ⟨w.heap.size, 1, none⟩ = some (.int .i64 0) := by rw [bk_cell hTd]; rfl
        have q2 : wr.drew.cell? ⟨w.heap.size, 2, none⟩ = some (.int .i64 0) := by rw [bk_cell hTd]; rfl
        have q3 : wr.drew.cell? ⟨w.heap.size, 3, none⟩ = some (.slice none 0 0) := by rw [bk_cell hTd]; rfl
        have x0 : wr.cell? ⟨w.heap.size, 0, none⟩ = some (.int .i64 0) := by rw [bk_cell hT]; rfl
        have x1 : wr.cell? ⟨w.heap.size, 1, none⟩ = some (.int .i64 0) := by rw [bk_cell hT]; rfl
        have x2 : wr.cell? ⟨w.heap.size, 2, none⟩ = some (.int .i64 0) := by rw [bk_cell hT]; rfl
        have x3 : wr.cell? ⟨w.heap.size, 3, none⟩ = some (.slice none 0 0) := by rw [bk_cell hT]; rfl
        have u0 := bk_free hT 0
        have u1 := bk_free hT 1
        have u2 := bk_free hT 2
        have u3 := bk_free hT 3
        have z0 := bk_free hTd 0
        have z1 := bk_free hTd 1
        have z2 := bk_free hTd 2
        have z3 := bk_free hTd 3
        have bd := bw.trans ((drew_below wr).mono bw.size)
        have hEd : rgBF wr.drew (w.heap.size + 1) P := hE
        have k1 : ((((wr.setCell ⟨w.heap.size, 0, none⟩ (.int .i64 mo)).setCell ⟨w.heap.size, 1, none⟩ (.int .i64 ca)).setCell ⟨w.heap.size, 2, none⟩ (.int .i64 ad)).setCell ⟨w.heap.size, 3, none⟩ (.slice (some ⟨w.heap.size + 1, 0, none⟩) k k)).drew.heap[w.heap.size]? = some (.cells #[.int .i64 mo, .int .i64 ca, .int .i64 ad, .slice (some ⟨w.heap.size + 1, 0, none⟩) k k] 31 (0, 0)) := (bk_set (bk_set (bk_set (bk_set hT 0 _) 1 _) 2 _) 3 _).trans rfl
        have k2 : rgBF ((((wr.setCell ⟨w.heap.size, 0, none⟩ (.int .i64 mo)).setCell ⟨w.heap.size, 1, none⟩ (.int .i64 ca)).setCell ⟨w.heap.size, 2, none⟩ (.int .i64 ad)).setCell ⟨w.heap.size, 3, none⟩ (.slice (some ⟨w.heap.size + 1, 0, none⟩) k k)).drew (w.heap.size + 1) P := (bk_other (by omega) 3 _).trans ((bk_other (by omega) 2 _).trans ((bk_other (by omega) 1 _).trans ((bk_other (by omega) 0 _).trans hE)))
        have bx : Below w.heap.size w ((((wr.setCell ⟨w.heap.size, 0, none⟩ (.int .i64 mo)).setCell ⟨w.heap.size, 1, none⟩ (.int .i64 ca)).setCell ⟨w.heap.size, 2, none⟩ (.int .i64 ad)).setCell ⟨w.heap.size, 3, none⟩ (.slice (some ⟨w.heap.size + 1, 0, none⟩) k k)) := (((bw.setCell (Nat.le_refl _) _).setCell (Nat.le_refl _) _).setCell (Nat.le_refl _) _).setCell (Nat.le_refl _) _
        have k3 := bx.trans ((drew_below _).mono bx.size)
        have KX : Hid _ := And.intro k1 (And.intro k2 k3)
        clear k1 k2 k3 bx bd hEd
        clear hP hE bw hT otd hTd
        go_upto_region 7 with fail
        go_region
        all_goals
          clear x0 x1 x2 x3 u0 u1 u2 u3 z0 z1 z2 z3 q0 q1 q2 q3 t0 t1 t2 t3 t4 t5
          go_wp2
          try simp only [Exit.inBlock, Exit.then]
          refine bodyPost_ret (v := .agg #[.int .i64 mo, .int .i64 ca, .int .i64 ad, .slice (some ⟨w.heap.size + 1, 0, none⟩) k k]) ?_ rfl ?_
          · refine results_cell_row (t := 31) rfl _ _ w.heap.size _ (fr := (0, 0)) _ rfl ?_ Try.underlying31 rfl infoTab
            exact KX.out.1
          · exact ⟨rfl, KX.out.2.1, KX.out.2.2⟩
end Go.Proofs.Ytocinjcbkolnhaa
