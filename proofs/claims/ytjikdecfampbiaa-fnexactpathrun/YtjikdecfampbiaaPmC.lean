import Derived.Test.YtjikdecfampbiaaPmB
import Derived.Test.YtjikdecfampbiaaStr
import Derived.Test.YtjikdecfampbiaaStrNe
import Derived.Laws.Append
import Derived.Lib.SlBytesConst
import Derived.Deep.LoopGhost
namespace Go.Proofs.Ytjikdecfampbiaa
open Go.RowKit
set_option linter.unusedVariables false
set_option linter.unusedSimpArgs false

theorem convM {P : Program} {w : World} {e ts tstr : Nat} {v : Value} {xs : List Int} (hs : P.underlying ts = some (.slice e)) (he : P.underlying e = some (.int .u8)) (hd : P.underlying tstr = some .string)
    (h : Row w .u8 v xs) : (convert ts tstr v).run P w = .ok (.string (strOfNums xs)) w := by
  by_cases h0 : 0 < xs.length
  · obtain ⟨b, off, cap, rfl, hb, hc⟩ := h.at h0
    exact run_convert_bytes_arg w ts e hs he b off xs.length cap xs rfl hc tstr hd
  · obtain rfl : xs = [] := List.eq_nil_of_length_eq_zero (by omega)
    obtain ⟨ao, cap, rfl⟩ := h.form
    cases ao with
    | none => exact run_convert_bytes_nil w ts e hs he 0 cap tstr hd
    | some p => simp [convert, run_underlying hs, run_underlying he, run_underlying hd, Conv.bytesToString, loadCells, loadCellsFrom, strOfNums]; rfl
theorem drewN_add (w : World) (a b : Nat) : (w.drewN a).drewN b = w.drewN (a + b) := by
  simp [World.drewN, Nat.add_assoc]
theorem take_skip {α : Type} [Inhabited α] (L : List α) (p : α → Bool) (j : Nat) (hj : j < L.length) (hp : p (L.getD j default) = false) : (L.take (j + 1)).filter p = (L.take j).filter p := by
  have hp' : p L[j] = false := by simpa [List.getD, hj] using hp
  rw [← List.take_append_getElem hj, List.filter_append]
  simp [hp']
theorem take_keep {α : Type} [Inhabited α] (L : List α) (p : α → Bool) (j : Nat) (hj : j < L.length) (hp : p (L.getD j default) = true) : (L.take (j + 1)).filter p = (L.take j).filter p ++ [L.getD j default] := by
  have hp' : p L[j] = true := by simpa [List.getD, hj] using hp
  rw [← List.take_append_getElem hj, List.filter_append]
  simp [hp', List.getD, hj]
theorem gown_lt {T : TypeId} {K : Nat} {w : World} {base : Nat} {v : Value} {L : List (List Value)} (h : GOwns T K w base v L) : ∀ k, v.ownBlock = some k → base ≤ k := by
  obtain ⟨zs, o, _⟩ := h
  exact fun k hk => (o.lt k hk).1
/-- What the search for an answer has told behind k places. -/
def AtK (ws : List (List Int × Nat)) (D : List Int) (k : Nat) (av : Int) : Prop :=
  (av = -1 ∧ ∀ j, j < k → (ws.getD j default).1 ≠ D) ∨ (0 < k ∧ k - 1 < ws.length ∧ wat ws D = k - 1 ∧ av = ((ws.getD (k - 1) default).2 : Int))
theorem wat_hit (ws : List (List Int × Nat)) (D : List Int) (k : Nat) (hk : k < ws.length) (he : (ws.getD k default).1 = D) (hno : ∀ j, j < k → (ws.getD j default).1 ≠ D) : wat ws D = k := by
  unfold wat
  exact (List.findIdx_eq hk).2 ⟨by simpa [List.getD, hk] using he, fun j hj => by have := hno j hj; simpa [List.getD, show j < ws.length by omega] using this⟩
theorem wat_none (ws : List (List Int × Nat)) (D : List Int) (hno : ∀ j, j < ws.length → (ws.getD j default).1 ≠ D) : ¬ wat ws D < ws.length := by
  have : wat ws D = ws.length := List.findIdx_eq_length.2 (fun x hx => by
    obtain ⟨j, hj, rfl⟩ := List.getElem_of_mem hx
    have := hno j hj
    simpa [List.getD, hj] using this)
  omega
theorem bytes_of {xs : List Int} (h : ∀ x ∈ xs, 0 ≤ x ∧ x < 256) : Bytes xs := h
/-- What is read of one that waits. -/
theorem MB.at {w : World} {x c1 c2 c3 base : Nat} {m : PX} {wv : Value} {Z : List ((List Int × Nat) × Value)} (h : MB w x c1 c2 c3 base m wv Z) (k : Nat) (hk : k < m.ws.length) :
    ∃ g o cap u, wv = .slice (some ⟨g, o, none⟩) m.ws.length cap ∧ g < w.heap.size ∧ w.cell? ⟨g, o + k * 2, none⟩ = some (.int .i64 ((m.ws.getD k default).2 : Int)) ∧ w.cell? ⟨g, o + k * 2 + 1, none⟩ = some u ∧ Z.getD k default = (m.ws.getD k default, u) ∧ w.ownsRow base 5 1 u (m.ws.getD k default).1.length ((m.ws.getD k default).1.map (Value.int .u8)) := by
  have hzl : Z.length = m.ws.length := by rw [← h.zs, List.length_map]
  have hz : (Z.getD k default).1 = m.ws.getD k default := by
    rw [← h.zs]
    simp [List.getD, show k < Z.length by omega]
  have hmem : Z.getD k default ∈ Z := getD_mem _ _ _ (by omega)
  rcases h.of with ⟨_, h0⟩ | ⟨g, o, cap, cur, e, q1, q2, q3, q4, q5, q6⟩
  · rw [List.map_eq_nil_iff] at h0; rw [h0] at hzl; simp at hzl; omega
  · rw [List.length_map, hzl] at e
    have t0 := q6 k 0 (by rw [List.length_map]; omega) (by omega)
    have t1 := q6 k 1 (by rw [List.length_map]; omega) (by omega)
    rw [map_at zrow Z default k (by omega)] at t0 t1
    refine ⟨g, o, cap, (Z.getD k default).2, e, (Array.getElem?_eq_some_iff.1 q2).1, by rw [bk_cell q2]; rw [← hz]; exact t0, by rw [bk_cell q2]; exact t1, ?_, ?_⟩
    · rw [← hz]
    · have o := h.ow _ hmem
      rw [hz] at o
      exact o
set_option maxRecDepth 20000 in
set_option maxHeartbeats 4000000 in
theorem answM1 (x c1 c2 c3 base : Nat) (m : PX) (v : Value) (D : List Int) (i : Nat) (w : World) (h : MRp w x c1 c2 c3 base m) (hI : PXI i m) (hr : Row w .u8 v D) (hl : D.length ≤ 1048576) (hbase : base ≤ w.heap.size) (hby : ∀ x ∈ D, 0 ≤ x ∧ x < 256) :
    Calls Try.prog 26 #[.pointer (some ⟨x, 0, none⟩), v] w fun e w' => e = .returned (.bool (decide (wat m.ws D < m.ws.length))) ∧ MDo x c1 c2 c3 base w w' (answM m D) := by
  obtain ⟨wv, Z, h⟩ := h
  have M := h.books
  obtain ⟨d5, d1, f5, hx⟩ := M.c5
  obtain ⟨wa, wcp, ew⟩ := h.of.form
  have hzl : Z.length = m.ws.length := by rw [← h.zs, List.length_map]
  obtain ⟨n, en⟩ : ∃ n, n = m.ws.length := ⟨_, rfl⟩
  rw [List.length_map, hzl, ← en] at ew
  have hw4 : n ≤ 4 := by have := hI.wl; omega
  obtain ⟨ao, cp, ev⟩ := hr.form
  obtain ⟨dn, edn⟩ : ∃ dn, dn = D.length := ⟨_, rfl⟩
  rw [← edn] at ev
  have HC : Hid _ := And.intro h (And.intro hI (And.intro hr (And.intro en (And.intro hby hzl))))
  clear h M hI hr en hby hzl hl edn
  subst ew ev
  go_enter Try.func26, Try.ntmps26
  go_wp2_with fail
  go_loopg [5, 6] n (fun q av kv wr => ∃ (k : Nat) (a : Int), k ≤ n ∧ q = n - k ∧ av = .int .i64 a ∧ kv = .int .i64 (k : Int) ∧ AtK m.ws D k a ∧ ∃ z, wr = w.drewN z)
  case atStart => exact ⟨0, -1, Nat.zero_le _, by omega, rfl, rfl, Or.inl ⟨rfl, fun j hj => by omega⟩, 0, rfl⟩
  case round =>
    obtain ⟨k, a, hk, hq, rfl, rfl, hA, z, hz0⟩ := hrel
    have hz : Hid _ := hz0
    clear hz0
    have hMB : MB wr x c1 c2 c3 base m (.slice wa n wcp) Z := HC.out.1.below (by rw [hz.out]; exact below_drewN (Below.refl _ _) _)
    rcases hA with ⟨rfl, hno⟩ | ⟨hk0, hk1, hwt, rfl⟩
    · by_cases hlt : k < n
      · have hkl : k < m.ws.length := by have := HC.out.2.2.2.1; omega
        obtain ⟨g, o, cap, u, ev, hgl, y0, y1, ez, ou⟩ := hMB.at k hkl
        rw [← HC.out.2.2.2.1] at ev
        simp only [Value.slice.injEq] at ev
        obtain ⟨rfl, -, rfl⟩ := ev
        obtain ⟨c5, c1', _, hxl⟩ := hMB.books.c5
        have cv1 : ∀ q : Nat, _ := fun q => convM (w := wr.drewN q) Try.underlying35 Try.underlying5 Try.underlying9 ((row_of_owns ou).drewN q)
        have cv2 : ∀ q : Nat, _ := fun q => convM (w := wr.drewN q) Try.underlying35 Try.underlying5 Try.underlying9 (show Row (wr.drewN q) .u8 (.slice ao dn cp) D from by rw [hz.out]; exact (HC.out.2.2.1.drewN z).drewN q)
        obtain ⟨ua, uc, eu⟩ := (row_of_owns ou).form
        obtain ⟨un, eun⟩ : ∃ un, un = (m.ws.getD k default).1.length := ⟨_, rfl⟩
        rw [← eun] at eu
        have hbE := (HC.out.2.1.wb _ (getD_mem m.ws default k hkl))
        have hbD := HC.out.2.2.2.2.1
        have HK : Hid _ := And.intro hno (And.intro hkl ou)
        clear ou ez eun hno hMB hkl
        subst eu
        by_cases he : (m.ws.getD k default).1 = D
        · have hs : ((strOfNums (m.ws.getD k default).1).toList == (strOfNums D).toList) = true := by rw [he]; simp
          generalize strOfNums (m.ws.getD k default).1 = s1 at cv1 hs
          generalize strOfNums D = s2 at cv2 hs
          have HE : Hid _ := he
          clear he hbE hbD
          go_wp2_with fail
          go_quiet (fail)
          go_wp2_with fail
          go_roundg (n - (k + 1))
          case measure => omega
          case rel => exact ⟨k + 1, _, by omega, rfl, rfl, by go_num, Or.inr ⟨by omega, by rw [Nat.add_sub_cancel]; exact HK.out.2.1, by rw [Nat.add_sub_cancel]; exact wat_hit m.ws D k HK.out.2.1 HE.out HK.out.1, by rw [Nat.add_sub_cancel]; rfl⟩, z + nq, by rw [hz.out]; exact drewN_add w z nq⟩
        · have hs := str_ne _ _ hbE hbD he
          generalize strOfNums (m.ws.getD k default).1 = s1 at cv1 hs
          generalize strOfNums D = s2 at cv2 hs
          have HE : Hid _ := he
          clear he hbE hbD
          go_wp2_with fail
          go_quiet (fail)
          go_wp2_with fail
          go_roundg (n - (k + 1))
          case measure => omega
          case rel => exact ⟨k + 1, -1, by omega, rfl, rfl, by go_num, Or.inl ⟨rfl, fun j hj => by
            by_cases hjk : j = k
            · rw [hjk]; exact HE.out
            · exact HK.out.1 j (by omega)⟩, z + nq, by rw [hz.out]; exact drewN_add w z nq⟩
      · obtain rfl : k = n := by omega
        have hnf := wat_none m.ws D (fun j hj => hno j (by have := HC.out.2.2.2.1; omega))
        obtain ⟨c5, c1', _, hxl⟩ := hMB.books.c5
        have HN : Hid _ := And.intro hnf hMB
        clear hno hnf hMB
        go_wp2_with fail
        go_ret
        have e2 : answM m D = m := by unfold answM; rw [if_neg HN.out.1]
        rw [decide_eq_false HN.out.1, e2]
        exact ⟨rfl, ⟨_, _, HN.out.2⟩, by rw [hz.out]; exact (ChS.refl _ _ _ _).drewN z⟩
    · obtain ⟨ad, ead⟩ : ∃ ad, ad = (m.ws.getD (k - 1) default).2 := ⟨_, rfl⟩
      rw [← ead]
      have hfd : Hid _ := And.intro (show wat m.ws D < m.ws.length by omega) (And.intro hwt ead)
      have had : ad < 256 := by rw [ead]; exact (HC.out.2.1.wd _ (getD_mem _ _ _ hk1)).2
      have hna : ¬ (ad : Int) < 0 := by omega
      clear hk1 hwt ead
      by_cases hlt : k < n
      · have hkI : (k : Int) < (n : Int) := by omega
        have hMB2 := hMB
        obtain ⟨e0, e1, e2, e3, e4, e5⟩ := hMB2.cells
        have y3 := hMB.r3.cell ad had
        have f3 := hMB.r3.free ad
        have hadI : (ad : Int) < 256 := by omega
        have hxl := (Array.getElem?_eq_some_iff.1 hMB.bk).1
        have hc3 := hMB.r3.lt
        have B1 := hMB.setV ad true
        obtain ⟨W1, eW1⟩ : ∃ W1, W1 = wr.setCell ⟨c3, ad, none⟩ (.bool true) := ⟨_, rfl⟩
        have C1 : ChS (KS x c1 c2 c3) 75 base w W1 := by
          rw [eW1, hz.out]
          exact ((ChS.refl _ _ _ _).drewN _).setK c3 (Or.inr (Or.inr (Or.inr rfl))) hMB.lo.2.2.2 ad _
        rw [← eW1] at B1
        have bA : Below W1.heap.size W1 (W1.alloc (.cells #[] 75)) := (Below.refl _ _).alloc (Nat.le_refl _) _
        have G0 := GOwns.lit0 75 2 W1 W1.heap.size (Nat.le_refl _)
        have hb1 : base ≤ W1.heap.size := by rw [eW1, setCell_size, hz.out]; exact hbase
        have sW1 : W1.heap.size = wr.heap.size := by rw [eW1]; exact setCell_size _ _ _
        rw [sW1] at bA G0 hb1
        have HT : Hid _ := And.intro B1 (And.intro C1 (And.intro bA (And.intro G0 (And.intro hb1 sW1))))
        have HW : Hid _ := eW1
        have HT2 := HT
        rw [eW1] at HT2
        clear B1 C1 bA G0 hb1 eW1 hMB hMB2 had e0 e1 e2 e3 sW1
        go_wp2_with fail
        go_loopg [7, 8] n (fun q lv kv wx => ∃ (j : Nat), j ≤ n ∧ q = n - j ∧ kv = .int .i64 (j : Int) ∧ GOwns 75 2 wx wr.heap.size lv (((Z.take j).filter (fun z => !decide (z.1.2 = ad))).map zrow) ∧ Below wr.heap.size W1 wx)
        case atStart =>
          exact ⟨0, Nat.zero_le _, by omega, rfl, HT2.out.2.2.2.1, by rw [HW.out]; exact HT2.out.2.2.1⟩
        case round =>
          rename World => ww
          obtain ⟨j, hj, hq2, rfl, G, bw⟩ := hrel
          have M2 := HT.out.1.below (w' := ww) (by rw [HT.out.2.2.2.2.2]; exact bw)
          obtain ⟨m5, _, mf5, mx⟩ := M2.books.c5
          have hbw : wr.heap.size ≤ ww.heap.size := by have := bw.size; rw [HT.out.2.2.2.2.2] at this; exact this
          have hlq : ((Z.take j).filter (fun z => !decide (z.1.2 = ad))).length ≤ 4 := Nat.le_trans (List.length_filter_le _ _) (by rw [List.length_take]; omega)
          by_cases hjn : j < n
          · have hjl : j < m.ws.length := by have := HC.out.2.2.2.1; omega
            have hjI : (j : Int) < (n : Int) := by omega
            obtain ⟨g2, o2, cap2, u2, ev2, hg2, z0, z1, ez2, ou2⟩ := M2.at j hjl
            rw [show ({ m with va := updF m.va ad true } : PX).ws.length = n from HC.out.2.2.2.1.symm] at ev2
            simp only [Value.slice.injEq] at ev2
            obtain ⟨rfl, -, rfl⟩ := ev2
            obtain ⟨aj, eaj⟩ : ∃ a, a = (m.ws.getD j default).2 := ⟨_, rfl⟩
            have z0' : ww.cell? ⟨g2, o2 + j * 2, none⟩ = some (.int .i64 (aj : Int)) := by rw [eaj]; exact z0
            have hzl : j < Z.length := by have := HC.out.2.2.2.2.2; omega
            have ezj : Z.getD j default = (m.ws.getD j default, u2) := ez2
            by_cases ha : aj = ad
            · have hne : ((aj : Int) != (ad : Int)) = false := by rw [ha]; simp
              have e3 := take_skip Z (fun z => !decide (z.1.2 = ad)) j hzl (by rw [ezj]; show (!decide ((m.ws.getD j default).2 = ad)) = false; rw [← eaj, ha]; simp)
              have HG : Hid _ := And.intro G (And.intro bw e3)
              clear G bw e3 M2 ez2 ou2 z0 eaj ha ezj hjl hzl
              go_wp2_with fail
              go_roundg (n - (j + 1))
              case measure => omega
              case rel => exact ⟨j + 1, by omega, rfl, by go_num, by rw [HG.out.2.2]; exact HG.out.1, HG.out.2.1⟩
            · have hne : ((aj : Int) != (ad : Int)) = true := by simp; omega
              have e3 := take_keep Z (fun z => !decide (z.1.2 = ad)) j hzl (by rw [ezj]; show (!decide ((m.ws.getD j default).2 = ad)) = true; rw [← eaj]; simp [ha])
              rw [ezj] at e3
              obtain ⟨ua2, uc2, eu2⟩ := (row_of_owns ou2).form
              obtain ⟨un2, eun2⟩ : ∃ un, un = (m.ws.getD j default).1.length := ⟨_, rfl⟩
              have eu3 : u2 = .slice ua2 un2 uc2 := by rw [eun2]; exact eu2
              obtain ⟨L2, eL2⟩ : ∃ L2, L2 = (Z.take j).filter (fun z => !decide (z.1.2 = ad)) := ⟨_, rfl⟩
              rw [← eL2] at G e3 hlq
              have fl : FlatK 2 (L2.map zrow) := zrow_flat _ (fun z hz => own_one (M2.ow z (by rw [eL2] at hz; exact List.mem_of_mem_take (List.mem_filter.1 hz).1)))
              obtain ⟨la, lc, el⟩ := G.row.form
              obtain ⟨ln, eln⟩ : ∃ ln, ln = (L2.map zrow).length := ⟨_, rfl⟩
              rw [← eln] at el
              subst eu3
              have bA : Below ww.heap.size ww (ww.alloc (.cells #[.int .i64 (aj : Int), .slice ua2 un2 uc2] 75)) := (Below.refl _ _).alloc (Nat.le_refl _) _
              have GA := G.below bA
              have LA : GRow 2 (ww.alloc (.cells #[.int .i64 (aj : Int), .slice ua2 un2 uc2] 75)) (.slice (some ⟨ww.heap.size, 0, none⟩) 1 1) [zrow ((m.ws.getD j default), .slice ua2 un2 uc2)] := by
                have t := lit_flat ww (zrow ((m.ws.getD j default), .slice ua2 un2 uc2)) 75
                unfold zrow at t ⊢
                dsimp only at t ⊢
                rw [← eaj] at t ⊢
                exact t
              have GL := gown_lt GA
              have hlq2 : (L2.map zrow).length ≤ 4 := by rw [List.length_map]; exact hlq
              rw [el] at GA GL
              have HG : Hid _ := And.intro GA (And.intro bw (And.intro e3 (And.intro fl (And.intro LA (And.intro bA (And.intro GL (And.intro hlq2 eL2)))))))
              clear G bw e3 M2 ez2 ou2 z0 eaj ha ezj hjl hzl fl bA GA LA GL hlq2 eL2 eln eu2 eun2 hlq
              subst el
              go_wp2_with (at_builtin; refine wpList_append_flat rfl (.tmp 70) (.tmp 78) 46 75 Try.underlying46 _ 2 32 infoWait rfl (by decide) (by decide) rfl wr.heap.size (.slice la ln lc) (L2.map zrow) HG.out.2.2.2.1 rfl HG.out.1 _ [zrow ((m.ws.getD j default), .slice ua2 un2 uc2)] (zrow_flat [((m.ws.getD j default), .slice ua2 un2 uc2)] (by simp; rfl)) rfl HG.out.2.2.2.2.1 (by have := HG.out.2.2.2.2.2.2.2.1; rw [List.length_singleton]; omega) (by have := HG.out.2.2.2.2.2.1.size; omega) ?_; intro v6 w6 o6 g6; have H6 : Hid _ := And.intro o6 g6; clear o6 g6)
              go_roundg (n - (j + 1))
              case measure => omega
              case rel => exact ⟨j + 1, by omega, rfl, by go_num, by rw [HG.out.2.2.1, List.map_append]; exact H6.out.1, by
                have b6 : Below wr.heap.size W1 _ := HG.out.2.1.trans (HG.out.2.2.2.2.2.1.mono hbw)
                exact b6.grown H6.out.2 (by have := b6.size; rw [HT.out.2.2.2.2.2] at this; exact this) HG.out.2.2.2.2.2.2.1⟩
          · obtain rfl : j = n := by omega
            have hjI : ¬ (j : Int) < (j : Int) := by omega
            have e4 : Z.take j = Z := List.take_of_length_le (by have := HC.out.2.2.2.2.2; have := HC.out.2.2.2.1; omega)
            rw [e4] at G
            obtain ⟨la, lc, el⟩ := G.row.form
            obtain ⟨ln, eln⟩ : ∃ ln, ln = ((Z.filter (fun z => !decide (z.1.2 = ad))).map zrow).length := ⟨_, rfl⟩
            rw [← eln] at el
            have HG : Hid _ := And.intro G (And.intro bw M2)
            clear G bw M2 e4 eln hlq
            subst el
            go_wp2_with fail
            go_ret
            obtain ⟨G, bw, M2⟩ := HG.out
            have e2 : answM m D = { m with va := updF m.va ad true, ws := wdel m.ws ad } := by unfold answM; rw [if_pos hfd.out.1, hfd.out.2.1, ← hfd.out.2.2]
            rw [decide_eq_true hfd.out.1, e2]
            have fl : FlatK 2 ((Z.filter (fun z => !decide (z.1.2 = ad))).map zrow) := zrow_flat _ (fun z hz => own_one (M2.ow z (List.mem_filter.1 hz).1))
            have OO := (OffR.of_owns (by decide) fl (G.flat (by decide) fl)).mono HT.out.2.2.2.2.1
            have T := M2.books.setW (Z := Z.filter (fun z => !decide (z.1.2 = ad))) _ (wdel m.ws ad) (by
              unfold wdel
              rw [← HC.out.1.zs, List.filter_map]
              rfl) OO (fun z hz => M2.ow z (List.mem_filter.1 hz).1)
            exact ⟨rfl, ⟨_, _, T⟩, (HT.out.2.1.trans (ChS.of_below (by rw [HT.out.2.2.2.2.2]; exact bw))).setK x (Or.inl rfl) HC.out.1.lo.1 5 _⟩
      · have hkI : ¬ (k : Int) < (n : Int) := by omega
        have hMB2 := hMB
        obtain ⟨e0, e1, e2, e3, e4, e5⟩ := hMB2.cells
        have y3 := hMB.r3.cell ad had
        have f3 := hMB.r3.free ad
        have hadI : (ad : Int) < 256 := by omega
        have hxl := (Array.getElem?_eq_some_iff.1 hMB.bk).1
        have hc3 := hMB.r3.lt
        have B1 := hMB.setV ad true
        obtain ⟨W1, eW1⟩ : ∃ W1, W1 = wr.setCell ⟨c3, ad, none⟩ (.bool true) := ⟨_, rfl⟩
        have C1 : ChS (KS x c1 c2 c3) 75 base w W1 := by
          rw [eW1, hz.out]
          exact ((ChS.refl _ _ _ _).drewN _).setK c3 (Or.inr (Or.inr (Or.inr rfl))) hMB.lo.2.2.2 ad _
        rw [← eW1] at B1
        have bA : Below W1.heap.size W1 (W1.alloc (.cells #[] 75)) := (Below.refl _ _).alloc (Nat.le_refl _) _
        have G0 := GOwns.lit0 75 2 W1 W1.heap.size (Nat.le_refl _)
        have hb1 : base ≤ W1.heap.size := by rw [eW1, setCell_size, hz.out]; exact hbase
        have sW1 : W1.heap.size = wr.heap.size := by rw [eW1]; exact setCell_size _ _ _
        rw [sW1] at bA G0 hb1
        have HT : Hid _ := And.intro B1 (And.intro C1 (And.intro bA (And.intro G0 (And.intro hb1 sW1))))
        have HW : Hid _ := eW1
        have HT2 := HT
        rw [eW1] at HT2
        clear B1 C1 bA G0 hb1 eW1 hMB hMB2 had e0 e1 e2 e3 sW1
        go_wp2_with fail
        go_loopg [7, 8] n (fun q lv kv wx => ∃ (j : Nat), j ≤ n ∧ q = n - j ∧ kv = .int .i64 (j : Int) ∧ GOwns 75 2 wx wr.heap.size lv (((Z.take j).filter (fun z => !decide (z.1.2 = ad))).map zrow) ∧ Below wr.heap.size W1 wx)
        case atStart =>
          exact ⟨0, Nat.zero_le _, by omega, rfl, HT2.out.2.2.2.1, by rw [HW.out]; exact HT2.out.2.2.1⟩
        case round =>
          rename World => ww
          obtain ⟨j, hj, hq2, rfl, G, bw⟩ := hrel
          have M2 := HT.out.1.below (w' := ww) (by rw [HT.out.2.2.2.2.2]; exact bw)
          obtain ⟨m5, _, mf5, mx⟩ := M2.books.c5
          have hbw : wr.heap.size ≤ ww.heap.size := by have := bw.size; rw [HT.out.2.2.2.2.2] at this; exact this
          have hlq : ((Z.take j).filter (fun z => !decide (z.1.2 = ad))).length ≤ 4 := Nat.le_trans (List.length_filter_le _ _) (by rw [List.length_take]; omega)
          by_cases hjn : j < n
          · have hjl : j < m.ws.length := by have := HC.out.2.2.2.1; omega
            have hjI : (j : Int) < (n : Int) := by omega
            obtain ⟨g2, o2, cap2, u2, ev2, hg2, z0, z1, ez2, ou2⟩ := M2.at j hjl
            rw [show ({ m with va := updF m.va ad true } : PX).ws.length = n from HC.out.2.2.2.1.symm] at ev2
            simp only [Value.slice.injEq] at ev2
            obtain ⟨rfl, -, rfl⟩ := ev2
            obtain ⟨aj, eaj⟩ : ∃ a, a = (m.ws.getD j default).2 := ⟨_, rfl⟩
            have z0' : ww.cell? ⟨g2, o2 + j * 2, none⟩ = some (.int .i64 (aj : Int)) := by rw [eaj]; exact z0
            have hzl : j < Z.length := by have := HC.out.2.2.2.2.2; omega
            have ezj : Z.getD j default = (m.ws.getD j default, u2) := ez2
            by_cases ha : aj = ad
            · have hne : ((aj : Int) != (ad : Int)) = false := by rw [ha]; simp
              have e3 := take_skip Z (fun z => !decide (z.1.2 = ad)) j hzl (by rw [ezj]; show (!decide ((m.ws.getD j default).2 = ad)) = false; rw [← eaj, ha]; simp)
              have HG : Hid _ := And.intro G (And.intro bw e3)
              clear G bw e3 M2 ez2 ou2 z0 eaj ha ezj hjl hzl
              go_wp2_with fail
              go_roundg (n - (j + 1))
              case measure => omega
              case rel => exact ⟨j + 1, by omega, rfl, by go_num, by rw [HG.out.2.2]; exact HG.out.1, HG.out.2.1⟩
            · have hne : ((aj : Int) != (ad : Int)) = true := by simp; omega
              have e3 := take_keep Z (fun z => !decide (z.1.2 = ad)) j hzl (by rw [ezj]; show (!decide ((m.ws.getD j default).2 = ad)) = true; rw [← eaj]; simp [ha])
              rw [ezj] at e3
              obtain ⟨ua2, uc2, eu2⟩ := (row_of_owns ou2).form
              obtain ⟨un2, eun2⟩ : ∃ un, un = (m.ws.getD j default).1.length := ⟨_, rfl⟩
              have eu3 : u2 = .slice ua2 un2 uc2 := by rw [eun2]; exact eu2
              obtain ⟨L2, eL2⟩ : ∃ L2, L2 = (Z.take j).filter (fun z => !decide (z.1.2 = ad)) := ⟨_, rfl⟩
              rw [← eL2] at G e3 hlq
              have fl : FlatK 2 (L2.map zrow) := zrow_flat _ (fun z hz => own_one (M2.ow z (by rw [eL2] at hz; exact List.mem_of_mem_take (List.mem_filter.1 hz).1)))
              obtain ⟨la, lc, el⟩ := G.row.form
              obtain ⟨ln, eln⟩ : ∃ ln, ln = (L2.map zrow).length := ⟨_, rfl⟩
              rw [← eln] at el
              subst eu3
              have bA : Below ww.heap.size ww (ww.alloc (.cells #[.int .i64 (aj : Int), .slice ua2 un2 uc2] 75)) := (Below.refl _ _).alloc (Nat.le_refl _) _
              have GA := G.below bA
              have LA : GRow 2 (ww.alloc (.cells #[.int .i64 (aj : Int), .slice ua2 un2 uc2] 75)) (.slice (some ⟨ww.heap.size, 0, none⟩) 1 1) [zrow ((m.ws.getD j default), .slice ua2 un2 uc2)] := by
                have t := lit_flat ww (zrow ((m.ws.getD j default), .slice ua2 un2 uc2)) 75
                unfold zrow at t ⊢
                dsimp only at t ⊢
                rw [← eaj] at t ⊢
                exact t
              have GL := gown_lt GA
              have hlq2 : (L2.map zrow).length ≤ 4 := by rw [List.length_map]; exact hlq
              rw [el] at GA GL
              have HG : Hid _ := And.intro GA (And.intro bw (And.intro e3 (And.intro fl (And.intro LA (And.intro bA (And.intro GL (And.intro hlq2 eL2)))))))
              clear G bw e3 M2 ez2 ou2 z0 eaj ha ezj hjl hzl fl bA GA LA GL hlq2 eL2 eln eu2 eun2 hlq
              subst el
              go_wp2_with (at_builtin; refine wpList_append_flat rfl (.tmp 70) (.tmp 78) 46 75 Try.underlying46 _ 2 32 infoWait rfl (by decide) (by decide) rfl wr.heap.size (.slice la ln lc) (L2.map zrow) HG.out.2.2.2.1 rfl HG.out.1 _ [zrow ((m.ws.getD j default), .slice ua2 un2 uc2)] (zrow_flat [((m.ws.getD j default), .slice ua2 un2 uc2)] (by simp; rfl)) rfl HG.out.2.2.2.2.1 (by have := HG.out.2.2.2.2.2.2.2.1; rw [List.length_singleton]; omega) (by have := HG.out.2.2.2.2.2.1.size; omega) ?_; intro v6 w6 o6 g6; have H6 : Hid _ := And.intro o6 g6; clear o6 g6)
              go_roundg (n - (j + 1))
              case measure => omega
              case rel => exact ⟨j + 1, by omega, rfl, by go_num, by rw [HG.out.2.2.1, List.map_append]; exact H6.out.1, by
                have b6 : Below wr.heap.size W1 _ := HG.out.2.1.trans (HG.out.2.2.2.2.2.1.mono hbw)
                exact b6.grown H6.out.2 (by have := b6.size; rw [HT.out.2.2.2.2.2] at this; exact this) HG.out.2.2.2.2.2.2.1⟩
          · obtain rfl : j = n := by omega
            have hjI : ¬ (j : Int) < (j : Int) := by omega
            have e4 : Z.take j = Z := List.take_of_length_le (by have := HC.out.2.2.2.2.2; have := HC.out.2.2.2.1; omega)
            rw [e4] at G
            obtain ⟨la, lc, el⟩ := G.row.form
            obtain ⟨ln, eln⟩ : ∃ ln, ln = ((Z.filter (fun z => !decide (z.1.2 = ad))).map zrow).length := ⟨_, rfl⟩
            rw [← eln] at el
            have HG : Hid _ := And.intro G (And.intro bw M2)
            clear G bw M2 e4 eln hlq
            subst el
            go_wp2_with fail
            go_ret
            obtain ⟨G, bw, M2⟩ := HG.out
            have e2 : answM m D = { m with va := updF m.va ad true, ws := wdel m.ws ad } := by unfold answM; rw [if_pos hfd.out.1, hfd.out.2.1, ← hfd.out.2.2]
            rw [decide_eq_true hfd.out.1, e2]
            have fl : FlatK 2 ((Z.filter (fun z => !decide (z.1.2 = ad))).map zrow) := zrow_flat _ (fun z hz => own_one (M2.ow z (List.mem_filter.1 hz).1))
            have OO := (OffR.of_owns (by decide) fl (G.flat (by decide) fl)).mono HT.out.2.2.2.2.1
            have T := M2.books.setW (Z := Z.filter (fun z => !decide (z.1.2 = ad))) _ (wdel m.ws ad) (by
              unfold wdel
              rw [← HC.out.1.zs, List.filter_map]
              rfl) OO (fun z hz => M2.ow z (List.mem_filter.1 hz).1)
            exact ⟨rfl, ⟨_, _, T⟩, (HT.out.2.1.trans (ChS.of_below (by rw [HT.out.2.2.2.2.2]; exact bw))).setK x (Or.inl rfl) HC.out.1.lo.1 5 _⟩
end Go.Proofs.Ytjikdecfampbiaa
