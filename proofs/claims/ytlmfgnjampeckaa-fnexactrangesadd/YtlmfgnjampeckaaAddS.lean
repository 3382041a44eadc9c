import Derived.Test.YtlmfgnjampeckaaAddM
namespace Go.Proofs.Ytlmfgnjampeckaa
open Go.RowKit
set_option linter.unusedVariables false

def joinL (L : List (Int × Int)) : List (Int × Int) := L.foldl jstep []
theorem joinL_succ (L : List (Int × Int)) (k : Nat) (hk : k < L.length) : joinL (L.take (k + 1)) = jstep (joinL (L.take k)) (rlo L k, rhi L k) := by
  unfold joinL
  rw [take_succ_pair L k hk, List.foldl_append]
  rfl
theorem jstep_length (out : List (Int × Int)) (p : Int × Int) : (jstep out p).length ≤ out.length + 1 := by
  unfold jstep
  split <;> simp
theorem joinL_length (L : List (Int × Int)) (k : Nat) (hk : k ≤ L.length) : (joinL (L.take k)).length ≤ k := by
  induction k with
  | zero => simp [joinL]
  | succ k ih =>
    rw [joinL_succ L k (by omega)]
    exact Nat.le_trans (jstep_length _ _) (by have := ih (by omega); omega)
theorem pair_set (R : List (Int × Int)) (t j : Nat) (p : Int × Int) (ht : t < R.length) : rlo (R.set t p) j = (if j = t then p.1 else rlo R j) ∧ rhi (R.set t p) j = (if j = t then p.2 else rhi R j) := by
  by_cases h : j = t
  · subst h; simp [rlo, rhi, List.getD, ht]
  · have h' : ¬ t = j := fun e => h e.symm
    simp [rlo, rhi, List.getD, h, h']
theorem pair_app (R S : List (Int × Int)) (j : Nat) (hj : j < R.length) : rlo (R ++ S) j = rlo R j ∧ rhi (R ++ S) j = rhi R j := by
  simp [rlo, rhi, List.getD, List.getElem?_append_left hj]
theorem hiOK_jstep {out : List (Int × Int)} {p : Int × Int} (h : HiOK out) (hp : 0 ≤ p.2 ∧ p.2 ≤ 4611686018427387903) : HiOK (jstep out p) := by
  unfold jstep
  split
  · rename_i hc
    intro j hj
    rw [List.length_set] at hj
    rw [(pair_set out _ j _ (by omega)).2]
    have h1 := h (out.length - 1) (by omega)
    split
    · simp only; omega
    · exact h j hj
  · rw [hiOK_mem] at h ⊢
    intro q hq
    rcases List.mem_append.1 hq with h1 | h1
    · exact h q h1
    · rw [List.mem_singleton.1 h1]; exact hp
theorem hiOK_joinL {L : List (Int × Int)} (h : HiOK L) (k : Nat) (hk : k ≤ L.length) : HiOK (joinL (L.take k)) := by
  induction k with
  | zero => intro j hj; simp [joinL] at hj
  | succ k ih => rw [joinL_succ L k (by omega)]; exact hiOK_jstep (ih (by omega)) (h k (by omega))
theorem POwns.setHi {T : TypeId} {w : World} {base g o cg t : Nat} {O : List (Int × Int)} {z : Int} (h : POwns T w base (.slice (some ⟨g, 0, none⟩) o cg) O) (hoO : o = O.length) (ht : t < O.length) : POwns T (w.setCell ⟨g, t * 2 + 1, none⟩ (.int .i64 z)) base (.slice (some ⟨g, 0, none⟩) o cg) (O.set t (rlo O t, z)) := by
  subst hoO
  obtain ⟨zs, ho, hz⟩ := h
  have hl : zs.length = O.length * 2 := ho.1
  refine ⟨zs.set (t * 2 + 1) (.int .i64 z), by rw [List.length_set]; exact (ho.stored (t * 2 + 1) _).1, fun j hj => ?_⟩
  rw [List.length_set] at hj
  rw [(pair_set O t j _ ht).1, (pair_set O t j _ ht).2]
  obtain ⟨u0, u1⟩ := hz j hj
  by_cases e : j = t
  · subst e
    rw [if_pos rfl, if_pos rfl]
    exact ⟨by rw [List.getElem?_set_ne (by omega)]; exact u0, by rw [List.getElem?_set_self (by omega)]⟩
  · rw [if_neg e, if_neg e]
    exact ⟨by rw [List.getElem?_set_ne (by omega)]; exact u0, by rw [List.getElem?_set_ne (by omega)]; exact u1⟩
set_option maxRecDepth 20000 in
set_option maxHeartbeats 4000000 in
theorem joinS (v : Value) (L : List (Int × Int)) (w : World) (h : RRow w v L) (hL : L.length ≤ 1048576) (hh : HiOK L) :
    Calls Try.prog 28 #[v] w fun e w' => ∃ r, e = .returned r ∧ POwns 36 w' w.heap.size r (joinL L) ∧ Below w.heap.size w w' := by
  obtain ⟨ao, cp, rfl⟩ := h.form
  obtain ⟨m, em⟩ : ∃ m, m = L.length := ⟨_, rfl⟩
  have HH : Hid _ := And.intro h (And.intro hh em)
  rw [← em] at hL ⊢
  clear h hh em
  go_enter Try.func28, Try.ntmps28
  go_wp2_with fail
  go_loopg [3, 4] m (fun q v i wr => ∃ k : Nat, k ≤ m ∧ q = m - k ∧ i = .int .i64 (k : Int) ∧ POwns 36 wr w.heap.size v (joinL (L.take k)) ∧ Below w.heap.size w wr)
  case atStart => exact ⟨0, by omega, by omega, rfl, POwns.lit0 _ w w.heap.size (Nat.le_refl _), (Below.refl _ _).alloc (Nat.le_refl _) _⟩
  case round =>
    obtain ⟨k, hk, hq, rfl, ow, bw⟩ := hrel
    by_cases hlt : k < m
    · obtain ⟨b, off, cap, ev, hbl, hc⟩ := HH.out.1.at' (by have := HH.out.2.2; omega)
      simp only [Value.slice.injEq] at ev
      obtain ⟨rfl, em2, rfl⟩ := ev
      clear em2
      obtain ⟨x, ex⟩ : ∃ x, x = rlo L k := ⟨_, rfl⟩
      obtain ⟨y, ey⟩ : ∃ y, y = rhi L k := ⟨_, rfl⟩
      have c0 := (bw.cell (p := ⟨b, off + k * 2, none⟩) hbl).trans (hc k (by have := HH.out.2.2; omega)).1
      have c1 := (bw.cell (p := ⟨b, off + k * 2 + 1, none⟩) hbl).trans (hc k (by have := HH.out.2.2; omega)).2
      rw [← ex] at c0
      rw [← ey] at c1
      have hbr : b < wr.heap.size := by have := bw.size; omega
      obtain ⟨O, eO⟩ : ∃ O, O = joinL (L.take k) := ⟨_, rfl⟩
      have hO : O.length ≤ 1048576 := by rw [eO]; have := joinL_length L k (by have := HH.out.2.2; omega); omega
      have hOK : HiOK O := by rw [eO]; exact hiOK_joinL HH.out.2.1 k (by have := HH.out.2.2; omega)
      have hJ : joinL (L.take (k + 1)) = jstep O (x, y) := by rw [joinL_succ L k (by have := HH.out.2.2; omega), ← eO, ← ex, ← ey]
      rw [← eO] at ow
      have hy := HH.out.2.1 k (by have := HH.out.2.2; omega)
      rw [← ey] at hy
      clear hc ex ey eO
      by_cases h0 : 0 < O.length
      · obtain ⟨g, cg, rfl, hbg, hgl, hgc, hcm, hgcell⟩ := ow.parts h0
        obtain ⟨t, et⟩ : ∃ t, t = O.length - 1 := ⟨_, rfl⟩
        obtain ⟨o, eo⟩ : ∃ o, o = O.length := ⟨_, rfl⟩
        obtain ⟨z, ez⟩ : ∃ z, z = rhi O t := ⟨_, rfl⟩
        have g1 := (hgcell t (by omega)).2
        rw [← ez, Nat.zero_add] at g1
        have hz := hOK t (by omega)
        rw [← ez] at hz
        have hwt : IntKind.i64.wrap ((o : Int) - 1) = (t : Int) := by rw [IntKind.wrap_i64]; omega
        have hwz : IntKind.i64.wrap (z + 1) = z + 1 := by rw [IntKind.wrap_i64]; omega
        have hto : t < o := by omega
        have gf := ow.cells.frozenAt (t * 2 + 1)
        rw [← eo] at ow
        have H2 : Hid _ := And.intro ow (And.intro bw (And.intro hJ (And.intro et (And.intro eo (And.intro ez (And.intro hbg hO))))))
        rw [← eo] at hgc ⊢
        clear ow bw hJ hgcell hOK et eo ez h0 hO hgc hcm
        by_cases hx : x ≤ z + 1
        · go_wp2_with fail
          go_quiet (fail)
          have BW : Below wr.heap.size wr (wr.drewN nq).drew := (below_drewN (Below.refl _ _) nq).drew
          have e1 := (BW.cell (p := ⟨b, off + k * 2 + 1, none⟩) hbr).trans c1
          have e2 := (BW.cell (p := ⟨g, t * 2 + 1, none⟩) hgl).trans g1
          have oW := H2.out.1.below BW
          have ow3 := oW.cells
          rw [← H2.out.2.2.2.2.1] at ow3
          have ef := ow3.frozenAt (t * 2 + 1)
          clear ow3
          have hgW : g < (wr.drewN nq).drew.heap.size := Nat.lt_of_lt_of_le hgl BW.size
          have hmx : max z y = (if z < y then y else z) := by split <;> omega
          have H3 : Hid _ := And.intro oW (And.intro (H2.out.2.1.trans (BW.mono H2.out.2.1.size)) hmx)
          clear oW BW hmx
          go_wp2_with fail
          go_region
          all_goals
            generalize (if z < y then y else z) = zz at H3 ⊢
            go_wp2
            go_roundg (m - (k + 1))
            case measure => omega
            case rel =>
              refine ⟨k + 1, by omega, rfl, by go_num, ?_, H3.out.2.1.setCell (p := ⟨g, t * 2 + 1, none⟩) H2.out.2.2.2.2.2.2.1 _⟩
              rw [H2.out.2.2.1]
              have e := POwns.setHi (z := zz) H3.out.1 H2.out.2.2.2.2.1 (t := t) (by have := H2.out.2.2.2.2.1; omega)
              have ej : jstep O (x, y) = O.set t (rlo O t, zz) := by
                unfold jstep
                rw [← H2.out.2.2.2.1, ← H2.out.2.2.2.2.2.1, if_pos ⟨by have := H2.out.2.2.2.2.1; omega, hx⟩]
                simp only
                rw [H3.out.2.2]
              rw [ej]
              exact e
        · have dx : decide (x ≤ z + 1) = false := decide_eq_false hx
          have HL : Hid _ := And.intro (show O.length + [(x, y)].length ≤ 1099511627776 by have := H2.out.2.2.2.2.2.2.2; simp only [List.length_singleton]; omega) True.intro
          go_wp2_with fail
          go_quiet (fail)
          go_wp2_with (at_builtin; refine wpList_append_pairs rfl (.tmp 47) (.tmp 52) 25 36 rfl Try.underlying25 infoRg' w.heap.size _ O rfl (H2.out.1.below ((below_drewN (Below.refl _ _) nq).alloc (Nat.le_refl _) _)) (.slice (some ⟨wr.heap.size, 0, none⟩) 1 1) [(x, y)] rfl (lit_row (wr.drewN nq) x y _) HL.out.1 (((below_drewN H2.out.2.1 nq).alloc (below_drewN H2.out.2.1 nq).size _).size) ?_; intro v' w2 o2 g2)
          have HR : Hid _ := And.intro o2 (((below_drewN H2.out.2.1 nq).alloc (below_drewN H2.out.2.1 nq).size _).grown g2 ((below_drewN H2.out.2.1 nq).alloc (below_drewN H2.out.2.1 nq).size _).size (fun q hq => (H2.out.1.lt q hq).1))
          clear o2 g2
          go_wp2
          go_roundg (m - (k + 1))
          case measure => omega
          case rel => exact ⟨k + 1, by omega, rfl, by go_num, by rw [H2.out.2.2.1, show jstep O (x, y) = O ++ [(x, y)] by unfold jstep; rw [← H2.out.2.2.2.1, ← H2.out.2.2.2.2.2.1, if_neg (fun hh => by have := hh.2; simp only at this; omega)]]; exact HR.out.1, HR.out.2⟩
      · have hO0 : O = [] := List.eq_nil_of_length_eq_zero (by omega)
        obtain ⟨ag, cg, eu⟩ := ow.row.form
        rw [show O.length = 0 by omega] at eu
        have H2 : Hid _ := And.intro ow (And.intro bw (And.intro hJ (And.intro hO0 hO)))
        clear ow bw hJ hOK hO0 h0 hO
        subst eu
        have HL : Hid _ := And.intro (show O.length + [(x, y)].length ≤ 1099511627776 by have := H2.out.2.2.2.2; simp only [List.length_singleton]; omega) True.intro
        go_wp2_with fail
        go_quiet (fail)
        go_wp2_with (at_builtin; refine wpList_append_pairs rfl (.tmp 47) (.tmp 52) 25 36 rfl Try.underlying25 infoRg' w.heap.size _ O rfl (H2.out.1.below ((below_drewN (Below.refl _ _) nq).alloc (Nat.le_refl _) _)) (.slice (some ⟨wr.heap.size, 0, none⟩) 1 1) [(x, y)] rfl (lit_row (wr.drewN nq) x y _) HL.out.1 (((below_drewN H2.out.2.1 nq).alloc (below_drewN H2.out.2.1 nq).size _).size) ?_; intro v' w2 o2 g2)
        have HR : Hid _ := And.intro o2 (((below_drewN H2.out.2.1 nq).alloc (below_drewN H2.out.2.1 nq).size _).grown g2 ((below_drewN H2.out.2.1 nq).alloc (below_drewN H2.out.2.1 nq).size _).size (fun q hq => (H2.out.1.lt q hq).1))
        clear o2 g2
        go_wp2
        go_roundg (m - (k + 1))
        case measure => omega
        case rel => exact ⟨k + 1, by omega, rfl, by go_num, by rw [H2.out.2.2.1, show jstep O (x, y) = O ++ [(x, y)] by rw [H2.out.2.2.2.1]; exact jstep_nil _]; exact HR.out.1, HR.out.2⟩
    · obtain rfl : k = m := by omega
      have H2 : Hid _ := And.intro ow bw
      clear ow bw
      go_wp2
      go_ret
      exact ⟨_, rfl, by have := H2.out.1; rw [HH.out.2.2, List.take_length] at this; exact this, H2.out.2⟩
end Go.Proofs.Ytlmfgnjampeckaa
