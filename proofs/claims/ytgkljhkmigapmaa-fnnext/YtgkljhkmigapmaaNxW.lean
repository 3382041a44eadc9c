import Derived.Test.YtgkljhkmigapmaaNxP
import Derived.Deep.RegionWith
import Derived.Deep.QuietTactic
import Derived.Deep.CutRange
import Derived.Deep.LoopGhost
namespace Go.Proofs.Ytgkljhkmigapmaa
open Go.RowKit
set_option linter.unusedVariables false

theorem next_huge (ao : Option Addr) (n cap : Nat) (w : World) (h : 1048576 < n) (hm : n ≤ 9223372036854775807) :
    Calls Try.prog 3 #[.slice ao n cap] w fun e w' => e = .returned (.bool true) ∧ Below w.heap.size w w' := by
  go_enter Try.func3, Try.ntmps3
  go_wp2
  go_ret
  exact ⟨rfl, Below.refl _ _⟩
set_option maxRecDepth 20000 in
set_option maxHeartbeats 8000000 in
theorem next_law (v : Value) (xs : List Int) (w : World) (hrow : Row w .u8 v xs) (hB : Bytes xs) (hl : xs.length ≤ 1048576) :
    Calls Try.prog 3 #[v] w fun e w' => e = .returned (.bool true) ∧ Below w.heap.size w w' := by
  have D := drawNx v xs w hrow hB hl
  obtain ⟨ao, cap, rfl⟩ := hrow.form
  have HD : Hid _ := And.intro D True.intro
  obtain ⟨n, en⟩ : ∃ n, n = xs.length := ⟨_, rfl⟩
  rw [← en] at hl HD ⊢
  clear D hrow hB en
  go_enter Try.func3, Try.ntmps3
  go_wp2_with fail
  go_at_call 4
  refine HD.out.1.mono ?_
  rintro e w1 ⟨r, L, rfl, ow, hL, hu, b1⟩
  obtain ⟨aw, cw, ew⟩ := ow.row.form
  obtain ⟨m, em⟩ : ∃ m, m = L.length := ⟨_, rfl⟩
  rw [List.length_map, ← em] at ew
  subst ew
  have hm : m ≤ 4097 := by omega
  by_cases hbig : 60 < m
  · have hbig' : (60 : Int) < m := by omega
    have CI : ∀ u, Below w1.heap.size w1 u → _ := fun u hu => nextWI (.slice aw m cw) L u (ow.row.below hu) (by omega)
    have CS : ∀ u, Below w1.heap.size w1 u → _ := fun u hu => nextWS (.slice aw m cw) L u (ow.row.below hu) (by omega)
    obtain ⟨N, eN⟩ : ∃ N, N = nxV L := ⟨_, rfl⟩
    rw [← eN] at CI CS
    have HC : Hid _ := And.intro CI (And.intro CS b1)
    have heq : (N == N) = true := by simp
    clear CI CS b1 ow hu hL em eN HD
    go_wp2_with fail
    go_at_call 5
    refine (HC.out.1 w1 (Below.refl _ _)).mono ?_
    rintro e w2 ⟨rfl, b2⟩
    have H2 : Hid _ := And.intro b2 True.intro
    clear b2
    go_wp2_with fail
    go_at_call 6
    refine (HC.out.2.1 w2 H2.out.1).mono ?_
    rintro e w3 ⟨rfl, b3⟩
    have H3 : Hid _ := And.intro (HC.out.2.2.trans ((H2.out.1.trans (b3.mono H2.out.1.size)).mono HC.out.2.2.size)) True.intro
    clear b3
    go_wp2
    go_ret
    exact ⟨rfl, H3.out.1⟩
  have hbig' : ¬ (60 : Int) < m := by omega
  have H1 : Hid _ := And.intro (show GOwns 27 4 w1 w.heap.size (.slice aw m cw) (SWaiting.L L) from ow.mono (by omega)) (And.intro hu (And.intro b1 em))
  clear ow hu b1 em hL HD
  go_wp2_with fail
  go_loopg [3, 4, 6, 8] m (fun q l o _xp _yp wr => ∃ (z : Value) (D : List SWaiting) (od : Int), z = l ∧ o = .int .i64 od ∧ q = D.length ∧ q ≤ 60 ∧ GOwns 27 4 wr w.heap.size z (SWaiting.L D) ∧ (∀ x ∈ D, od ≤ x.f1) ∧ Below w.heap.size w wr)
  case atStart => exact ⟨_, L, -1, rfl, rfl, H1.out.2.2.2, by omega, H1.out.1, fun x hx => by have := H1.out.2.1 x hx; omega, H1.out.2.2.1⟩
  case round =>
    obtain ⟨z, D, od, el, rfl, rfl, hq60, ow, hu, hb⟩ := hrel
    rw [← el]
    clear el H1
    by_cases h0 : 0 < D.length
    · obtain ⟨g, cap2, ez, hg, hbg, hnc, hcm, hc⟩ := ow.at0 (by rw [List.length_map]; exact h0)
      obtain ⟨d, ed⟩ : ∃ d, d = D.length := ⟨_, rfl⟩
      rw [List.length_map] at ez hnc hc
      rw [← ed] at ez hnc hc hq60 h0
      subst ez
      have d0 : (0 : Int) < d := by omega
      have q1 : GOwns 27 4 (wr.alloc (.cells #[] 27)) w.heap.size (.slice (some ⟨wr.heap.size, 0, none⟩) 0 0) (SWaiting.L []) := GOwns.lit0 _ 4 wr w.heap.size hb.size
      have q2 : GRow 4 (wr.alloc (.cells #[] 27)) (.slice (some ⟨g, 0, none⟩) d cap2) (SWaiting.L D) := ow.row.below ((Below.refl _ _).alloc (Nat.le_refl _) _)
      have q3 : (SWaiting.L []).length + (SWaiting.L D).length ≤ 1099511627776 := by simp; omega
      have q4 : w.heap.size ≤ (wr.alloc (.cells #[] 27)).heap.size := by have := hb.size; simp; omega
      have HQ : Hid _ := And.intro q1 (And.intro q2 (And.intro q3 (And.intro q4 (And.intro (show Below wr.heap.size wr (wr.alloc (.cells #[] 27)) from (Below.refl _ _).alloc (Nat.le_refl _) _) True.intro))))
      have hcell : ∀ j, j < d → wr.cell? ⟨g, j * 4, none⟩ = some (.int .i64 (D.getD j default).f0) ∧ wr.cell? ⟨g, j * 4 + 1, none⟩ = some (.int .i64 (D.getD j default).f1) ∧ wr.cell? ⟨g, j * 4 + 2, none⟩ = some (.int .i64 (D.getD j default).f2) ∧ wr.cell? ⟨g, j * 4 + 3, none⟩ = some (.bool (D.getD j default).f3) := by
        intro j hj
        have t := hc j hj
        rw [SWaiting.at D j (by omega)] at t
        exact ⟨t 0 (by decide), t 1 (by decide), t 2 (by decide), t 3 (by decide)⟩
      have HW : Hid _ := And.intro hcell (And.intro hc (And.intro hg (And.intro hu (And.intro hb (And.intro ed (And.intro ow hbg))))))
      clear q1 q2 q3 q4 hcell hc hu hb ow ed hbg
      go_wp2_with (at_builtin; refine wpList_append_flat rfl _ _ 23 27 Try.underlying23 _ 4 32 infoWaiting rfl (by decide) (by decide) rfl w.heap.size (.slice (some ⟨wr.heap.size, 0, none⟩) 0 0) (SWaiting.L []) (SWaiting.flat _) rfl HQ.out.1 _ (SWaiting.L D) (SWaiting.flat _) rfl HQ.out.2.1 HQ.out.2.2.1 HQ.out.2.2.2.1 ?_; intro v8 w8 o8 g8)
      have b8 : Below wr.heap.size wr w8 := HQ.out.2.2.2.2.1.grown g8 HQ.out.2.2.2.2.1.size (fun k hk => by have : some wr.heap.size = some k := hk; injection this; omega)
      have C8 := nextWI v8 D w8 (show GRow 4 w8 v8 (SWaiting.L D) from o8.row) (by have := HW.out.2.2.2.2.2.1; omega)
      have hk1 := nxt_lt D d h0
      have hmin := nxt_min D d
      rw [show nxV D = (nxt D d : Int) by unfold nxV; rw [← HW.out.2.2.2.2.2.1, if_neg (by omega)]] at C8
      obtain ⟨k, ek⟩ : ∃ k, k = nxt D d := ⟨_, rfl⟩
      rw [← ek] at C8 hk1 hmin
      have H8 : Hid _ := And.intro b8 (And.intro C8 hmin)
      clear b8 C8 hmin ek o8 g8 HQ
      go_wp2_with fail
      go_at_call 5
      refine H8.out.2.1.mono ?_
      rintro e w9 ⟨rfl, b9⟩
      have B9 : Below wr.heap.size wr w9 := H8.out.1.trans (b9.mono H8.out.1.size)
      have hk0 : ¬ ((k : Int) < 0) := by omega
      have hkd : ¬ ((d : Int) ≤ (k : Int)) := by omega
      have hkn : ¬ (d ≤ k) := by omega
      obtain ⟨t0, t1, t2, t3⟩ := HW.out.1 k hk1
      have hg' := HW.out.2.2.1
      have c0 : w9.cell? ⟨g, k * 4, none⟩ = some (.int .i64 (D.getD k default).f0) := (B9.cell (p := ⟨g, k * 4, none⟩) hg').trans t0
      have c1 : w9.cell? ⟨g, k * 4 + 1, none⟩ = some (.int .i64 (D.getD k default).f1) := (B9.cell (p := ⟨g, k * 4 + 1, none⟩) hg').trans t1
      have c2 : w9.cell? ⟨g, k * 4 + 2, none⟩ = some (.int .i64 (D.getD k default).f2) := (B9.cell (p := ⟨g, k * 4 + 2, none⟩) hg').trans t2
      have c3 : w9.cell? ⟨g, k * 4 + 3, none⟩ = some (.bool (D.getD k default).f3) := (B9.cell (p := ⟨g, k * 4 + 3, none⟩) hg').trans t3
      have hxu := HW.out.2.2.2.1
      obtain ⟨X, eX⟩ : ∃ X, X = D.getD k default := ⟨_, rfl⟩
      have hXm : X ∈ D := by
        rw [eX]
        have hk2 : k < D.length := by have := HW.out.2.2.2.2.2.1; omega
        simp [List.getD, hk2]
      have hXo : od ≤ X.f1 := hxu X hXm
      have hno : ∀ j, j < d → ahd (D.getD j default) X = false := fun j hj => by rw [eX]; exact H8.out.2.2 j hj
      have hrise : ∀ x ∈ D, X.f1 ≤ x.f1 := fun x hx => by
        obtain ⟨j, hj, rfl⟩ := getD_mem D x hx
        have := (ahd_no _ _ (hno j (by have := HW.out.2.2.2.2.2.1; omega))).1
        omega
      rw [← eX] at c0 c1 c2 c3
      have H9 : Hid _ := And.intro B9 (And.intro hno (And.intro hrise (And.intro hXm eX)))
      clear B9 b9 hno hrise hXm t0 t1 t2 t3 hg' hxu eX H8
      obtain ⟨x0, x1, x2, x3⟩ := X
      simp only at c0 c1 c2 c3 hXo
      have hXo' : ¬ (x1 < od) := by omega
      go_wp2_with fail
      go_loopg [7, 8] d (fun q i _yp wi => ∃ j : Nat, j ≤ d ∧ q = d - j ∧ i = .int .i64 (j : Int) ∧ Below (w9.heap.size + 1) (w9.alloc (.cells #[.int .i64 x0, .int .i64 x1, .int .i64 x2, .bool x3] 27)) wi)
      case atStart => exact ⟨0, by omega, by omega, rfl, Below.refl _ _⟩
      case round =>
        obtain ⟨j, hj, rfl, rfl, bi⟩ := hrel
        by_cases hjd : j < d
        · have hjd' : (j : Int) < d := by omega
          have hz9 : w9.heap.size + 1 ≤ wr.heap.size := by have := bi.size; simpa using this
          have bi' : Below w9.heap.size w9 wr := ((Below.refl w9.heap.size w9).alloc (Nat.le_refl _) _).trans (bi.mono (by omega))
          have br : Below _ _ wr := H9.out.1.trans (bi'.mono H9.out.1.size)
          have hg' := HW.out.2.2.1
          obtain ⟨t0, t1, t2, t3⟩ := HW.out.1 j hjd
          have c0 : wr.cell? ⟨g, j * 4, none⟩ = some (.int .i64 (D.getD j default).f0) := (br.cell (p := ⟨g, j * 4, none⟩) hg').trans t0
          have c1 : wr.cell? ⟨g, j * 4 + 1, none⟩ = some (.int .i64 (D.getD j default).f1) := (br.cell (p := ⟨g, j * 4 + 1, none⟩) hg').trans t1
          have c2 : wr.cell? ⟨g, j * 4 + 2, none⟩ = some (.int .i64 (D.getD j default).f2) := (br.cell (p := ⟨g, j * 4 + 2, none⟩) hg').trans t2
          have c3 : wr.cell? ⟨g, j * 4 + 3, none⟩ = some (.bool (D.getD j default).f3) := (br.cell (p := ⟨g, j * 4 + 3, none⟩) hg').trans t3
          have ha := ahd_no _ _ (H9.out.2.1 j hjd)
          obtain ⟨Y, eY⟩ : ∃ Y, Y = D.getD j default := ⟨_, rfl⟩
          rw [← eY] at c0 c1 c2 c3 ha
          clear eY t0 t1 t2 t3
          obtain ⟨y0, y1, y2, y3⟩ := Y
          simp only at c0 c1 c2 c3 ha
          have kx := heap_alloc_new w9 (.cells #[.int .i64 x0, .int .i64 x1, .int .i64 x2, .bool x3] 27)
          have kx' : (wr.alloc (.cells #[.int .i64 y0, .int .i64 y1, .int .i64 y2, .bool y3] 27)).heap[w9.heap.size]? = some (.cells #[.int .i64 x0, .int .i64 x1, .int .i64 x2, .bool x3] 27) :=
            (Below.heap_alloc _ _ _ (by omega)).trans ((bi.block w9.heap.size (by omega)).trans kx)
          have e0 := bk_cell kx' 0
          have e1 := bk_cell kx' 1
          have e2 := bk_cell kx' 2
          have e3 := bk_cell kx' 3
          have ky := heap_alloc_new wr (.cells #[.int .i64 y0, .int .i64 y1, .int .i64 y2, .bool y3] 27)
          have f0 := bk_cell ky 0
          have f1 := bk_cell ky 1
          have f2 := bk_cell ky 2
          have f3 := bk_cell ky 3
          have HI : Hid _ := And.intro (bi.alloc hz9 (.cells #[.int .i64 y0, .int .i64 y1, .int .i64 y2, .bool y3] 27)) True.intro
          obtain ⟨ha1, ha2⟩ := ha
          have HA : Hid _ := And.intro ha2 True.intro
          clear bi bi' br hg' kx kx' ky ha2
          simp at e0 e1 e2 e3 f0 f1 f2 f3
          go_upto_region 16 with fail
          go_cut [104] from 42 to 104 (fun cv wx => cv = .bool false ∧ Below (w9.heap.size + 1) (w9.alloc (.cells #[.int .i64 x0, .int .i64 x1, .int .i64 x2, .bool x3] 27)) wx)
          case first =>
            by_cases cE : y1 = x1
            · have deq : (y1 == x1) = true := by simp [cE]
              obtain ⟨hat, haf⟩ := HA.out.1 cE
              clear cE HA
              cases x3 <;> cases y3
              · have h00 : ¬ y0 < x0 := haf rfl rfl
                clear hat haf
                go_wp2_with fail
                go_meet
                exact ⟨rfl, HI.out.1⟩
              · clear hat haf
                go_wp2_with fail
                go_meet
                exact ⟨rfl, HI.out.1⟩
              · exact absurd (hat rfl).1 (by decide)
              · have h22 : ¬ y2 < x2 := (hat rfl).2
                clear hat haf
                go_wp2_with fail
                go_meet
                exact ⟨rfl, HI.out.1⟩
            · have deq : (y1 == x1) = false := by simp [cE]
              clear cE HA
              go_wp2_with fail
              go_meet
              exact ⟨rfl, HI.out.1⟩
          case rest =>
          obtain ⟨rfl, bc⟩ := hcut
          have HB : Hid _ := And.intro bc True.intro
          clear bc c0 c1 c2 c3 e0 e1 e2 e3 f0 f1 f2 f3
          go_wp2
          go_roundg (d - (j + 1))
          case measure => omega
          case rel => exact ⟨j + 1, by omega, rfl, by go_num, HB.out.1⟩
        · obtain rfl : j = d := by omega
          have hz9 : w9.heap.size + 1 ≤ wr.heap.size := by have := bi.size; simpa using this
          have bi' : Below w9.heap.size w9 wr := ((Below.refl w9.heap.size w9).alloc (Nat.le_refl _) _).trans (bi.mono (by omega))
          have br : Below _ _ wr := H9.out.1.trans (bi'.mono H9.out.1.size)
          have kx := heap_alloc_new w9 (.cells #[.int .i64 x0, .int .i64 x1, .int .i64 x2, .bool x3] 27)
          have kx' : wr.heap[w9.heap.size]? = some (.cells #[.int .i64 x0, .int .i64 x1, .int .i64 x2, .bool x3] 27) := (bi.block w9.heap.size (by omega)).trans kx
          have e1 := bk_cell kx' 1
          simp at e1
          have hg' := HW.out.2.2.1
          have hc' : ∀ i, i < j → ∀ f, f < 4 → wr.cell? ⟨g, i * 4 + f, none⟩ = ((SWaiting.L D).getD i [])[f]? := fun i hi f hf => (br.cell (p := ⟨g, i * 4 + f, none⟩) hg').trans (HW.out.2.1 i hi f hf)
          have hDl : (SWaiting.L D).length = j := by rw [List.length_map]; exact HW.out.2.2.2.2.2.1.symm
          have hgr : g < wr.heap.size := Nat.lt_of_lt_of_le hg' br.size
          have rt : GRow 4 wr (.slice (some ⟨g, 0, none⟩) k cap2) ((SWaiting.L D).take k) := grow_take (n := 0) hgr (by omega) (fun i hi => hc' i (by omega))
          have rd : GRow 4 wr (.slice (some ⟨g, (k + 1) * 4, none⟩) (j - (k + 1)) (cap2 - (k + 1))) ((SWaiting.L D).drop (k + 1)) := by
            have := grow_drop (n := 0) (cap := cap2 - (k + 1)) (k := k + 1) hgr (fun i hi => hc' i (by omega))
            rw [hDl] at this
            exact this
          have bw : Below w.heap.size w wr := HW.out.2.2.2.2.1.trans (br.mono HW.out.2.2.2.2.1.size)
          have q1 : GOwns 27 4 (wr.alloc (.cells #[] 27)) w.heap.size (.slice (some ⟨wr.heap.size, 0, none⟩) 0 0) [] := GOwns.lit0 _ 4 wr w.heap.size bw.size
          have ba : Below wr.heap.size wr (wr.alloc (.cells #[] 27)) := (Below.refl _ _).alloc (Nat.le_refl _) _
          have HE : Hid _ := And.intro q1 (And.intro (rt.below ba) (And.intro rd (And.intro bw (And.intro ba hDl))))
          clear q1 rt rd bw ba hDl hc' kx kx' hgr hg' br bi' hz9 bi
          by_cases hcap : cap2 = k + 1
          · have hjk : j = k + 1 := by omega
            subst hcap
            subst hjk
            go_wp2_with (at_builtin; first | (refine wpList_append_flat rfl _ _ 23 27 Try.underlying23 _ 4 32 infoWaiting rfl (by decide) (by decide) rfl w.heap.size (.slice (some ⟨wr.heap.size, 0, none⟩) 0 0) [] (FlatK.nil 4) rfl HE.out.1 _ ((SWaiting.L D).take k) (by rw [← List.map_take]; exact SWaiting.flat _) rfl HE.out.2.1 (by simp; omega) (by have h1 := HE.out.2.2.2.1.size; simp; omega) ?_; intro v10 w10 o10 g10; obtain ⟨a10, p10, e10⟩ := o10.row.form; obtain ⟨n10, en10⟩ : ∃ n10, n10 = ([] ++ List.take k (SWaiting.L D)).length := ⟨_, rfl⟩; rw [← en10] at e10; clear en10; subst e10; have ba10 := HE.out.2.2.2.2.1.grown g10 HE.out.2.2.2.2.1.size (fun q hq => by have : some wr.heap.size = some q := hq; injection this; omega); have HF : Hid _ := And.intro o10 (And.intro (HE.out.2.2.1.below ba10) (And.intro (HE.out.2.2.2.1.trans (ba10.mono HE.out.2.2.2.1.size)) True.intro)); clear o10 g10 ba10) | (refine wpList_append_flat rfl _ _ 23 27 Try.underlying23 _ 4 32 infoWaiting rfl (by decide) (by decide) rfl w.heap.size (.slice a10 n10 p10) (List.take k (SWaiting.L D)) (by rw [← List.map_take]; exact SWaiting.flat _) rfl HF.out.1 _ ((SWaiting.L D).drop (k + 1)) (by rw [← List.map_drop]; exact SWaiting.flat _) rfl (show GRow 4 w10 _ ((SWaiting.L D).drop (k + 1)) by rw [List.drop_of_length_le (by have := HE.out.2.2.2.2.2; omega)]; exact Or.inl ⟨rfl, _, _, rfl⟩) (by have := HE.out.2.2.2.2.2; simp; simp at this; omega) HF.out.2.2.1.size ?_; intro v11 w11 o11 g11; have HG : Hid _ := And.intro o11 (HF.out.2.2.1.grown g11 HF.out.2.2.1.size HF.out.1.high); clear o11 g11))
            have hW := HW.out
            have hlen : (outK D k).length = D.length - 1 := outK_len D k (by have := hW.2.2.2.2.2.1; omega)
            go_roundg (outK D k).length
            case measure => have := hW.2.2.2.2.2.1; omega
            case rel =>
              refine ⟨_, outK D k, x1, rfl, rfl, rfl, ?_, ?_, fun x hx => H9.out.2.2.1 x (outK_mem D k x hx), HG.out.2⟩
              · have := hW.2.2.2.2.2.1; omega
              · have := HG.out.1
                rw [← List.map_take, ← List.map_drop, ← List.map_append] at this
                exact this
          · go_wp2_with (at_builtin; first | (refine wpList_append_flat rfl _ _ 23 27 Try.underlying23 _ 4 32 infoWaiting rfl (by decide) (by decide) rfl w.heap.size (.slice (some ⟨wr.heap.size, 0, none⟩) 0 0) [] (FlatK.nil 4) rfl HE.out.1 _ ((SWaiting.L D).take k) (by rw [← List.map_take]; exact SWaiting.flat _) rfl HE.out.2.1 (by simp; omega) (by have h1 := HE.out.2.2.2.1.size; simp; omega) ?_; intro v10 w10 o10 g10; obtain ⟨a10, p10, e10⟩ := o10.row.form; obtain ⟨n10, en10⟩ : ∃ n10, n10 = ([] ++ List.take k (SWaiting.L D)).length := ⟨_, rfl⟩; rw [← en10] at e10; clear en10; subst e10; have ba10 := HE.out.2.2.2.2.1.grown g10 HE.out.2.2.2.2.1.size (fun q hq => by have : some wr.heap.size = some q := hq; injection this; omega); have HF : Hid _ := And.intro o10 (And.intro (HE.out.2.2.1.below ba10) (And.intro (HE.out.2.2.2.1.trans (ba10.mono HE.out.2.2.2.1.size)) True.intro)); clear o10 g10 ba10) | (refine wpList_append_flat rfl _ _ 23 27 Try.underlying23 _ 4 32 infoWaiting rfl (by decide) (by decide) rfl w.heap.size (.slice a10 n10 p10) (List.take k (SWaiting.L D)) (by rw [← List.map_take]; exact SWaiting.flat _) rfl HF.out.1 _ ((SWaiting.L D).drop (k + 1)) (by rw [← List.map_drop]; exact SWaiting.flat _) rfl HF.out.2.1 (by have := HE.out.2.2.2.2.2; simp; simp at this; omega) HF.out.2.2.1.size ?_; intro v11 w11 o11 g11; have HG : Hid _ := And.intro o11 (HF.out.2.2.1.grown g11 HF.out.2.2.1.size HF.out.1.high); clear o11 g11))
            have hW := HW.out
            have hlen : (outK D k).length = D.length - 1 := outK_len D k (by have := hW.2.2.2.2.2.1; omega)
            go_roundg (outK D k).length
            case measure => have := hW.2.2.2.2.2.1; omega
            case rel =>
              refine ⟨_, outK D k, x1, rfl, rfl, rfl, ?_, ?_, fun x hx => H9.out.2.2.1 x (outK_mem D k x hx), HG.out.2⟩
              · have := hW.2.2.2.2.2.1; omega
              · have := HG.out.1
                rw [← List.map_take, ← List.map_drop, ← List.map_append] at this
                exact this
    · have e0 : D = [] := List.eq_nil_of_length_eq_zero (by omega)
      subst e0
      obtain ⟨ao2, cp2, ez0⟩ := ow.row.form
      have ez : z = .slice ao2 0 cp2 := ez0
      clear ez0
      subst ez
      have C := nextWI (.slice ao2 0 cp2) [] wr ow.row (by simp)
      rw [show nxV [] = -1 by decide] at C
      have H2 : Hid _ := And.intro C hb
      clear C ow hb hu hq60 h0
      go_wp2_with fail
      go_at_call 5
      refine H2.out.1.mono ?_
      rintro e w2 ⟨rfl, b2⟩
      have H3 : Hid _ := And.intro (H2.out.2.trans (b2.mono H2.out.2.size)) True.intro
      clear b2
      go_wp2
      go_ret
      exact ⟨rfl, H3.out.1⟩
theorem fnNext_walk (v : Value) (xs : List Int) (hl : xs.length ≤ maxLen) (hwf : ∀ x ∈ xs, (Lit.int .u8 x).wf = true) (w : World) (hrow : Row w .u8 v xs) :
    Calls Try.prog 3 #[v] w fun e w' => e = .returned (.bool true) ∧ Below w.heap.size w w' := by
  have hm : xs.length ≤ 9223372036854775807 := by unfold maxLen at hl; omega
  by_cases h20 : 1048576 < xs.length
  · obtain ⟨ao, cap, rfl⟩ := hrow.form
    exact next_huge ao _ cap w h20 hm
  · exact next_law v xs w hrow (bytes_of_wf hwf) (by omega)
end Go.Proofs.Ytgkljhkmigapmaa
