import Derived.Test.YtkpmdcmgcdnpfaaIStrmL
namespace Go.Proofs.Ytkpmdcmgcdnpfaa
open Go.RowKit
set_option linter.unusedVariables false

set_option maxRecDepth 20000 in
set_option maxHeartbeats 16000000 in
theorem stream1 (l Bn Bs G n m : Nat) (kb nn : List Int) (lk : kb.length = 16) (ln : nn.length = 8) (bk : Bytes kb) (bn : Bytes nn) (hn : n ≤ 1048576) (hBn : Bn ≠ G) (hBs : Bs ≠ G) (J Jx : List (Fin n) → World → Prop) (W : World) (hG : G < W.heap.size) (hJ : AbidesFrom W.heap.size J)
    (hY : ∀ pre x W1, J pre W1 → pre.length < n → YieldAt Fence.wide m Try.prog l #[.int .i64 (x.1 : Int), .int .u8 (st kb nn n x.1)] W1 fun e W' => (e = .returned (.bool true) ∧ J (pre ++ [x]) W' ∧ KpG G W1 W') ∨ (e = .returned (.bool false) ∧ Jx (pre ++ [x]) W'))
    (h1 : W.heap[Bn]? = some (.cells #[.int .i64 (n : Int)] 3 (0, 0))) (h2 : W.heap[Bs]? = some (.cells (u8s (kb ++ nn)).toArray 59 (0, 0))) (h0 : J [] W) :
    Calls Try.prog 53 #[.func (.yield l) #[] #[], .pointer (some ⟨Bn, 0, none⟩), .pointer (some ⟨Bs, 0, none⟩)] W fun e W' => (∃ v, e = .returned v) ∧ ((∃ xs, (∀ j : Fin n, j ∈ xs) ∧ J xs W') ∨ (∃ pre, True ∧ Jx pre W')) := by
  have HH : Hid _ := And.intro (And.intro lk (And.intro ln (And.intro bk bn))) (And.intro (And.intro hBn hBs) (And.intro hJ hY))
  have I0 : Hid (ItAt kb nn n Bn Bs 0 W W J) := ⟨h1, h2, Nat.le_refl _, [], rfl, fun j hj => by omega, h0⟩
  clear lk ln bk bn hBn hBs hJ hY h1 h2 h0
  go_enter Try.func53, Try.ntmps53
  go_wp2
  go_loopw [4] (fun a wr => ∃ q : Nat, 16 * q ≤ n + 15 ∧ a = .int .i64 (16 * (q : Int)) ∧ ItAt kb nn n Bn Bs (min n (16 * q)) W wr J) (fun a _ => n + 16 - (intOf a).toNat)
  case atStart => exact ⟨0, by omega, rfl, by simpa using I0.out⟩
  case round =>
    obtain ⟨q, hq, rfl, it⟩ := hrel
    have cn : wr.cell? ⟨Bn, 0, none⟩ = some (.int .i64 (n : Int)) := by rw [blkS_cell it.num]; rfl
    by_cases hlt : 16 * q < n
    · have hmin : min n (16 * q) = 16 * q := by omega
      rw [hmin] at it
      have t0 : Book wr [(Bs, .cells (u8s (kb ++ nn)).toArray 59 (0, 0)), (Bn, .cells #[.int .i64 (n : Int)] 3 (0, 0))] := ⟨fun b o hm => by
        simp only [List.mem_cons, Prod.mk.injEq, List.not_mem_nil, or_false] at hm
        rcases hm with ⟨rfl, rfl⟩ | ⟨rfl, rfl⟩
        · exact it.pack
        · exact it.num⟩
      have H1 : Hid _ := And.intro it t0
      have hbs : Bs < wr.heap.size := (Array.getElem?_eq_some_iff.1 it.pack).1
      have hbn : Bn < wr.heap.size := (Array.getElem?_eq_some_iff.1 it.num).1
      clear it t0 hmin
      go_upto_region 3 with fail
      go_cut [5] from 9 to 21 (fun v wx => SumAt wr wx (digV kb (nn ++ be (q : Int) 4)) (.cells (u8s (kb ++ nn)).toArray 59 (0, 0)) Bs v)
      case first =>
        have ew1 : IntKind.i64.wrap (q : Int) = (q : Int) := by rw [IntKind.wrap_i64]; omega
        have ew2 : IntKind.u64.wrap (q : Int) = (q : Int) := by rw [IntKind.wrap_u64]; omega
        go_region_law (first
          | (go_simp; go_at_call 18; refine (high (q : Int) 4 _ (by omega) (by omega) (by decide)).mono ?_; rintro e w2 ⟨r, rfl, o2, b2⟩; obtain ⟨g2, cap2, er2, hg1, hg2⟩ := owns_shape o2 (by decide); subst er2
             have CX : Hid (Below wr.heap.size wr w2) := Below.trans (by show Below wr.heap.size wr _; repeat (first | exact Below.refl _ _ | refine below_drewN ?_ 1 | refine Below.alloc ?_ (by simp <;> omega) _)) (b2.mono (by simp <;> omega))
             first
               | have BX := And.intro (H1.out.2.drew.below b2) True.intro
               | have BX := And.intro ((H1.out.2.add Z16e).drew.below b2) True.intro
             have HX : Hid _ := BX; clear BX)
          | (go_simp; go_at_call 49
             first
               | ((with_reducible show Calls _ _ _ (w2.alloc (Obj.cells #[_, _] _ _)) _); have BZ := And.intro (HX.out.1.add (.cells #[.slice (some ⟨Bs, 16, none⟩) 8 8, .slice (some ⟨g2, 0, none⟩) 4 cap2] 22)) True.intro; refine (strm_call (kb := kb) (nn := nn) (q := q) (pS := Bs) (pP := w2.heap.size) (v3 := .slice (some ⟨g2, 0, none⟩) 4 cap2) (BZ.1.blk _ _ (by simp)) (BZ.1.blk _ _ (by simp)) ((row_of_owns o2).below (by repeat (first | exact Below.refl _ _ | refine Below.alloc ?_ (by simp <;> omega) _))) HH.out.1.1 HH.out.1.2.1 HH.out.1.2.2.1 HH.out.1.2.2.2).mono ?_)
               | ((with_reducible show Calls _ _ _ ((w2.alloc (Obj.cells #[_, _] _ _)).alloc (Obj.cells _ 74 _)) _); have BZ := And.intro ((HX.out.1.add (.cells #[.slice (some ⟨Bs, 16, none⟩) 8 8, .slice (some ⟨g2, 0, none⟩) 4 cap2] 22)).add Z16e) True.intro; refine (strm_call (kb := kb) (nn := nn) (q := q) (pS := Bs) (pP := w2.heap.size) (v3 := .slice (some ⟨g2, 0, none⟩) 4 cap2) (BZ.1.blk _ _ (by simp)) (BZ.1.blk _ _ (by simp)) ((row_of_owns o2).below (by repeat (first | exact Below.refl _ _ | refine Below.alloc ?_ (by simp <;> omega) _))) HH.out.1.1 HH.out.1.2.1 HH.out.1.2.2.1 HH.out.1.2.2.2).mono ?_)
               | ((with_reducible show Calls _ _ _ ((w2.alloc (Obj.cells _ 74 _)).alloc (Obj.cells #[_, _] _ _)) _); have BZ := And.intro ((HX.out.1.add Z16e).add (.cells #[.slice (some ⟨Bs, 16, none⟩) 8 8, .slice (some ⟨g2, 0, none⟩) 4 cap2] 22)) True.intro; refine (strm_call (kb := kb) (nn := nn) (q := q) (pS := Bs) (pP := w2.heap.size + 1) (v3 := .slice (some ⟨g2, 0, none⟩) 4 cap2) (BZ.1.blk _ _ (by simp)) (BZ.1.blk _ _ (by simp)) ((row_of_owns o2).below (by repeat (first | exact Below.refl _ _ | refine Below.alloc ?_ (by simp <;> omega) _))) HH.out.1.1 HH.out.1.2.1 HH.out.1.2.2.1 HH.out.1.2.2.2).mono ?_)
             rintro e w3 ⟨rfl, b3⟩; have hDl := digV_length kb (nn ++ be (q : Int) 4); obtain ⟨D, eD⟩ : ∃ D, D = digV kb (nn ++ be (q : Int) 4) := ⟨_, rfl⟩; rw [← eD] at hDl ⊢; have hlu : (u8s D).length = 16 := by rw [u8s_length, hDl]
             have B3 : Book w3 _ := BZ.1.below b3
             have C3 : Below wr.heap.size wr w3 := Below.trans (CX.out.trans (Below.mono (B := w2.heap.size) (by repeat (first | exact Below.refl _ _ | refine Below.alloc ?_ (by simp <;> omega) _)) CX.out.size)) (b3.mono (by have := CX.out.size; simp <;> omega))
             have z3 : wr.heap.size ≤ w2.heap.size := CX.out.size
             have y3 : w3.heap[Bs]? = some (.cells (u8s (kb ++ nn)).toArray 59 (0, 0)) := B3.blk _ _ (by simp)
             have H3 : Hid _ := And.intro C3 (And.intro y3 eD)
             have hs0 := st16 (W := w3.alloc Z16e) (MapKept.heap_alloc w3 Z16e).1 hDl
             first
               | (have HP0 := B3.blk (wr.heap.size) Z16e; simp at HP0; have HP : Hid (w3.heap[wr.heap.size]? = some Z16e ∧ wr.heap.size ≤ wr.heap.size) := And.intro HP0 (Nat.le_refl _); clear HP0; have hs1 := st16 HP.out.1 hDl)
               | (have HP0 := B3.blk (w2.heap.size) Z16e; simp at HP0; have HP : Hid (w3.heap[w2.heap.size]? = some Z16e ∧ wr.heap.size ≤ w2.heap.size) := And.intro HP0 (z3); clear HP0; have hs1 := st16 HP.out.1 hDl)
               | (have HP0 := B3.blk (w2.heap.size + 1) Z16e; simp at HP0; have HP : Hid (w3.heap[w2.heap.size + 1]? = some Z16e ∧ wr.heap.size ≤ w2.heap.size + 1) := And.intro HP0 (Nat.le_succ_of_le z3); clear HP0; have hs1 := st16 HP.out.1 hDl)
               | skip
             clear BZ B3 C3 y3 eD b3)
          )
        all_goals
          go_wp2_with fail
          go_meet
          rw [← H3.out.2.2]
          first
            | exact sum_setR HP.out.1 H3.out.1 H3.out.2.1 (Nat.lt_of_lt_of_le hbs HP.out.2) HP.out.2
            | exact sum_freshR H3.out.1 H3.out.2.1
      case rest =>
      obtain ⟨p, rfl, hp, hpl, hpw⟩ := hcut.at'
      have it2 : ItAt kb nn n Bn Bs (16 * q) W wc J := H1.out.1.below HH.out.2.2.1 hcut.bel
      have H2 : Hid _ := And.intro it2 hp
      have cn2 : wc.cell? ⟨Bn, 0, none⟩ = some (.int .i64 (n : Int)) := by rw [blkS_cell it2.num]; rfl
      have hpG : p ≠ G := by have := H1.out.1.size; omega
      have hps : p < wc.heap.size := (Array.getElem?_eq_some_iff.1 hp).1
      clear hcut hp it2 cn
      obtain ⟨mm, em⟩ : ∃ mm, mm = min 16 (n - 16 * q) := ⟨_, rfl⟩
      have hm1 : mm ≤ 16 := by omega
      have hm2 : 16 * q + mm ≤ n := by omega
      have hm3 : min n (16 * (q + 1)) = 16 * q + mm := by omega
      go_upto_region 4 with fail
      go_cut [25, 26] from 22 to 26 (fun c i wx => c = .int .i64 (mm : Int) ∧ i = .int .i64 0 ∧ wx = wc)
      case first =>
        go_wp2
        all_goals
          go_meet
          exact ⟨congrArg (Value.int .i64) (by omega), rfl, rfl⟩
      case rest =>
      obtain ⟨rfl, rfl, hwc⟩ := hcut
      subst hwc
      clear cn2 em
      go_wp2_with fail
      go_loopw [26] (fun c wx => ∃ i : Nat, i ≤ mm ∧ c = .int .i64 (i : Int) ∧ ItAt kb nn n Bn Bs (16 * q + i) W wx J ∧ wx.heap[p]? = some (.cells (u8s (digV kb (nn ++ be (q : Int) 4))).toArray 74 (0, 0))) (fun c _ => mm - (intOf c).toNat)
      case atStart => exact ⟨0, by omega, rfl, H2.out.1, H2.out.2⟩
      case round =>
        obtain ⟨i, hi, rfl, it, hp⟩ := hrel
        by_cases hlt2 : i < mm
        · have hxn : 16 * q + i < n := by omega
          have cx : wr.cell? ⟨p, i, none⟩ = some (.int .u8 (st kb nn n (16 * q + i))) := by
            rw [blkS_cell hp, st_at kb nn n q i (by omega) hxn]
            exact u8s_get _ _ (by rw [digV_length]; omega)
          obtain ⟨pre, hl, hall, hj⟩ := it.told
          have HY := HH.out.2.2.2 pre ⟨16 * q + i, hxn⟩ wr hj (by omega)
          obtain ⟨fn, tmps, assign, body, hy, hR⟩ := HY
          have ec : ((16 * q + i : Nat) : Int) = 16 * (q : Int) + (i : Int) := by omega
          simp only at hy
          rw [ec] at hy
          have H3 : Hid _ := And.intro it (And.intro hp (And.intro hl hall))
          have HR : Hid _ := hR
          clear it hp hl hall hj hR
          go_upto_region 7 with fail
          refine (wpIn_wide (n := m + 1)).1 ?_
          gi_wp2
          refine RoundIn.mono HR.out ?_
          rintro e W3 (⟨rfl, hJ3, hk3⟩ | ⟨rfl, hJx3⟩)
          · have it3 : ItAt kb nn n Bn Bs (16 * q + (i + 1)) W W3 J := by
              refine ⟨hk3.2 _ _ _ _ HH.out.2.1.1 H3.out.1.num, hk3.2 _ _ _ _ HH.out.2.1.2 H3.out.1.pack, Nat.le_trans H3.out.1.size hk3.1, pre ++ [⟨16 * q + i, hxn⟩], ?_, ?_, hJ3⟩
              · rw [List.length_append, H3.out.2.2.1]
                simp
                omega
              · intro j hj
                by_cases hji : j.1 < 16 * q + i
                · exact List.mem_append_left _ (H3.out.2.2.2 j hji)
                · have hje : j = ⟨16 * q + i, hxn⟩ := Fin.ext (by show j.1 = 16 * q + i; omega)
                  rw [hje]
                  simp
            have H4 : Hid _ := And.intro it3 (hk3.2 _ _ _ _ hpG H3.out.2.1)
            clear it3 hJ3 hk3 cx hy
            gi_wp2
            go_wp2
            go_roundw
            case rel => exact ⟨i + 1, by omega, by go_num, H4.out.1, H4.out.2⟩
            case measure => simp [intOf]; omega
          · gi_wp2
            go_wp2
            refine bodyPost_ret (results_none rfl _ _ _) rfl ?_
            exact ⟨⟨_, rfl⟩, .inr ⟨_, trivial, hJx3⟩⟩
        · obtain rfl : i = mm := by omega
          have it3 : ItAt kb nn n Bn Bs (min n (16 * (q + 1))) W wr J := by rw [hm3]; exact it
          have H4 : Hid _ := And.intro it3 True.intro
          clear it it3 hp
          go_wp2
          go_roundw
          case rel => exact ⟨q + 1, by omega, congrArg (Value.int .i64) (by omega), H4.out.1⟩
          case measure => simp [intOf]; omega
    · have hmin : min n (16 * q) = n := by omega
      rw [hmin] at it
      obtain ⟨pre, hl, hall, hj⟩ := it.told
      have H1 : Hid _ := And.intro hall hj
      clear it hall hj hl hmin
      go_wp2
      go_end0
      exact ⟨⟨_, rfl⟩, .inl ⟨pre, fun j => H1.out.1 j j.2, H1.out.2⟩⟩
end Go.Proofs.Ytkpmdcmgcdnpfaa
