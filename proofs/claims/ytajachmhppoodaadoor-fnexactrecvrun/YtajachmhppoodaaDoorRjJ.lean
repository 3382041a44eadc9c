import Derived.Test.YtajachmhppoodaaDoorLiftB
import Derived.Test.YtajachmhppoodaaDoorFbRecvOp
import Derived.Test.YtajachmhppoodaaDoorStP
import Derived.Lib.LaidTab
import Derived.Test.YtajachmhppoodaaDoorFbRecvObs
import Derived.Test.YtajachmhppoodaaDoorRsJ
import Derived.Test.YtajachmhppoodaaDoorCards
import Derived.Test.YtajachmhppoodaaDoorTie
namespace Go.Proofs.YtajachmhppoodaaDoor
open Go.ChangeShapes Go.WideShapes Go.ChangeAt Go.RowKit Go.Joins Go.Deep
set_option linter.unusedVariables false

theorem list_of_flatB {α : Type} {d : α} {Q : Nat → α → Prop} (n : Nat) (h : ∀ i, i < n → ∃ p, Q i p) : ∃ L : List α, L.length = n ∧ ∀ i, i < n → Q i (L.getD i d) := by
  induction n with
  | zero => exact ⟨[], rfl, fun i hi => by omega⟩
  | succ n ih =>
    obtain ⟨L, hl, hL⟩ := ih (fun i hi => h i (by omega))
    obtain ⟨xs, hx⟩ := h n (by omega)
    refine ⟨L ++ [xs], by simp [hl], fun i hi => ?_⟩
    by_cases hin : i < n
    · have e : (L ++ [xs]).getD i d = L.getD i d := by simp [List.getD, List.getElem?_append_left (show i < L.length by omega)]
      rw [e]; exact hL i hin
    · obtain rfl : i = n := by omega
      have e : (L ++ [xs]).getD i d = xs := by simp [List.getD, hl]
      rw [e]; exact hx
theorem wf_le {a : Int} (h : (Lit.int .i64 a).wf = true) : a ≤ 9223372036854775807 := by
  simp only [Lit.wf, Bool.and_eq_true, decide_eq_true_eq] at h
  exact h.2
/-- AN ARGUMENT THAT IS A LIST OF STRUCTS: THREE NUMBERS, BYTES, A BOOL. -/
theorem open_opsV {H : Type} {enc : TypeId × Value → H} {P : Program} {W : World} {r : Reach} {base : Nat} {t te ti tb ts tu : TypeId} {f0 f1 f2 f3 f4 : Field} {v : Value} {d : DataW H} {p : List MemPlace}
    (ht : P.underlying t = some (.slice te)) (hs : P.underlying te = some (.struct #[f0, f1, f2, f3, f4])) (hone : oneCellFields P #[f0, f1, f2, f3, f4] = true) (hC : P.cellsOf te = 5) (hf : f0.type = ti ∧ f1.type = ti ∧ f2.type = ti ∧ f3.type = ts ∧ f4.type = tb) (hi : P.underlying ti = some (.int .i64)) (hb : P.underlying tb = some .bool)
    (hts : P.underlying ts = some (.slice tu)) (htu : P.underlying tu = some (.int .u8)) (hcu : P.cellsOf tu = 1)
    (hval : Value.okWide P W r base t v) (h : DataW.Trod enc P W 0 (fun _ => true) true t v d p) : ∃ L : List SRecvOp, BRow 5 SRecvOp.c SRecvOp.d W v L ∧ L.length ≤ maxLen ∧ (∀ j, j < L.length → (L.getD j default).d.length ≤ maxLen) ∧ ∀ j, j < L.length → (L.getD j default).f1 ≤ 9223372036854775807 := by
  obtain ⟨a0, len0, cap0, rfl⟩ := okWide_slice ht hval
  obtain ⟨fuel, hx0⟩ := h
  have hx : DataW.trod enc P W 0 (fun _ => true) true fuel t [.slice a0 len0 cap0] = some (d, p) := by simpa [Value.cells] using hx0
  rcases DataW.trod_slice ht hx with ⟨h0, _⟩ | ⟨a, len, cap, elems, rest, n, _, hcv, _, _, hl, hm, hlen, hel, _, _⟩
  · have e : (.slice a0 len0 cap0 : Value) = .slice none 0 0 := by simpa using h0
    rw [e]
    exact ⟨[], ⟨fun _ => .slice none 0 0, Or.inl ⟨by simp [zl], none, 0, rfl⟩, fun j hj => by simp at hj⟩, by simp, fun j hj => by simp at hj, fun j hj => by simp at hj⟩
  · have e : (.slice a0 len0 cap0 : Value) = .slice (some a) len cap := by simpa using hcv
    rw [e]
    have each : ∀ i, i < len → ∃ q : SRecvOp × Value, (∀ f, f < 5 → W.cell? ((a.add (i * 5)).add f) = (q.1.c q.2)[f]?) ∧ Row W .u8 q.2 q.1.d ∧ q.1.d.length ≤ maxLen ∧ q.1.f1 ≤ 9223372036854775807 := by
      intro i hi'
      have h1 := hel i hi'
      rw [hC] at h1
      obtain ⟨y, hy⟩ : ∃ y, elems[i]? = some y := ⟨elems[i]'(by omega), by simp [hlen, hi']⟩
      rw [hy, Option.bind_eq_some_iff] at h1
      obtain ⟨cs', hcc, hy'⟩ := h1
      obtain ⟨_, hl2, hcell⟩ := World.cells?_some hcc
      obtain ⟨xs, m, _, _, _, hlx, hg⟩ := DataW.trod_struct hs hy'
      match cs', hl2, hcell, xs, hlx, hg with
      | [c0, c1, c2, c3, c4], _, hcell, [y0, y1, y2, y3, y4], _, hg =>
        obtain ⟨o0, k0⟩ := hone_of hone 0 f0 rfl
        obtain ⟨o1, k1⟩ := hone_of hone 1 f1 rfl
        obtain ⟨o2, k2⟩ := hone_of hone 2 f2 rfl
        obtain ⟨o3, k3⟩ := hone_of hone 3 f3 rfl
        obtain ⟨o4, k4⟩ := hone_of hone 4 f4 rfl
        have e0 : DataW.trod enc P W 0 (fun _ => true) true m f0.type [c0] = some y0 := by simpa [o0, k0] using hg 0 f0 rfl
        have e1 : DataW.trod enc P W 0 (fun _ => true) true m f1.type [c1] = some y1 := by simpa [o1, k1] using hg 1 f1 rfl
        have e2 : DataW.trod enc P W 0 (fun _ => true) true m f2.type [c2] = some y2 := by simpa [o2, k2] using hg 2 f2 rfl
        have e3 : DataW.trod enc P W 0 (fun _ => true) true m f3.type [c3] = some y3 := by simpa [o3, k3] using hg 3 f3 rfl
        have e4 : DataW.trod enc P W 0 (fun _ => true) true m f4.type [c4] = some y4 := by simpa [o4, k4] using hg 4 f4 rfl
        rw [hf.1] at e0
        rw [hf.2.1] at e1
        rw [hf.2.2.1] at e2
        rw [hf.2.2.2.1] at e3
        rw [hf.2.2.2.2] at e4
        obtain ⟨x0, rfl, _⟩ := open_num hi e0
        obtain ⟨x1, rfl, wf1⟩ := open_num hi e1
        obtain ⟨x2, rfl, _⟩ := open_num hi e2
        obtain ⟨x3, rx, lx, _⟩ := open_field hts htu hcu e3
        obtain ⟨x4, hx4, _⟩ := DataW.trod_bool hb e4
        have e4' : c4 = .bool x4 := by simpa using hx4
        subst e4'
        refine ⟨(⟨x0, x1, x2, x3, x4⟩, c3), fun f hf5 => ?_, rx, lx, wf_le wf1⟩
        have q := hcell f (by simpa using hf5)
        exact q
    obtain ⟨L, hR, hq⟩ := list_of_flatB (d := ((default : SRecvOp), Value.slice none 0 0)) len each
    have hg : ∀ j, j < len → (L.map (·.1)).getD j default = (L.getD j (default, Value.slice none 0 0)).1 := fun j hj => by simp [List.getD, show j < L.length by omega]
    refine ⟨L.map (·.1), ⟨fun j => (L.getD j (default, Value.slice none 0 0)).2, ?_, fun j hj => ?_⟩, by rw [List.length_map]; omega, fun j hj => ?_, fun j hj => ?_⟩
    · by_cases h0 : len = 0
      · subst h0
        have hL : L = [] := List.eq_nil_of_length_eq_zero hR
        subst hL
        exact Or.inl ⟨by simp [zl], _, _, rfl⟩
      · have u0 := (hq 0 (by omega)).1 0 (by omega)
        obtain ⟨b, off, spot⟩ := a
        have u1 : W.cell? ((Addr.add ⟨b, off, spot⟩ (0 * 5)).add 0) = some (.int .i64 (L.getD 0 (default, Value.slice none 0 0)).1.f0) := u0
        have hspot : spot = none := by simpa [Addr.add] using World.cell?_spot u1
        subst hspot
        rw [add_plain, add_plain] at u1
        refine Or.inr ⟨b, off, cap, by rw [zl_length, List.length_map, hR], cell_ltL u1, fun j hj f hf5 => ?_⟩
        rw [zl_length, List.length_map] at hj
        have w0 := (hq j (by omega)).1 f hf5
        rw [add_plain, add_plain, Nat.add_assoc] at w0
        rw [zl_at _ _ _ _ (by rw [List.length_map]; exact hj), hg j (by omega)]
        exact w0
    · rw [List.length_map] at hj
      rw [hg j (by omega)]; exact (hq j (by omega)).2.1
    · rw [List.length_map] at hj
      rw [hg j (by omega)]; exact (hq j (by omega)).2.2.1
    · rw [List.length_map] at hj
      rw [hg j (by omega)]; exact (hq j (by omega)).2.2.2
/-- An array of two rows of six that reads as the table. -/
theorem cells_of_tab2 {H : Type} {enc : TypeId × Value → H} {P : Program} {w : World} {base : Nat} {sp : Nat → Bool} {held : Bool} {fuel : Nat} {t e u : TypeId} {cs : List Value} {z1 z2 : List Int} {p : List MemPlace}
    (ht : P.underlying t = some (.array 2 e)) (he : P.underlying e = some (.array 6 u)) (hu : P.underlying u = some (.int .u8)) (hcu : P.cellsOf u = 1) (hce : P.cellsOf e = 6) (hct : P.cellsOf t = 12)
    (h : DataW.trod enc P w base sp held fuel t cs = some (.agg [Lib.tabData .u8 z1, Lib.tabData .u8 z2], p)) : cs = (z1 ++ z2).map fun z => Value.int .u8 z := by
  cases fuel with
  | zero => simp [DataW.trod] at h
  | succ fuel =>
    simp only [DataW.trod, ht, hce, hct] at h
    split at h
    · rename_i hl
      obtain ⟨xs, hm, hx⟩ := Option.map_eq_some_iff.1 h
      have hxs : xs.map (·.1) = [Lib.tabData .u8 z1, Lib.tabData .u8 z2] := by
        have := congrArg Prod.fst hx
        simpa using this
      obtain ⟨b0, hb0, h0⟩ := Lib.mapM_at hm 0 0 (by simp)
      obtain ⟨b1, hb1, h1⟩ := Lib.mapM_at hm 1 1 (by simp)
      have e0 : b0.1 = Lib.tabData .u8 z1 := by
        have := congrArg (·[0]?) hxs
        simpa [hb0] using this
      have e1 : b1.1 = Lib.tabData .u8 z2 := by
        have := congrArg (·[1]?) hxs
        simpa [hb1] using this
      obtain ⟨d0, p0⟩ := b0
      obtain ⟨d1, p1⟩ := b1
      simp only at e0 e1
      subst e0 e1
      have q0 := Lib.cells_of_tab he hu hcu hce h0
      have q1 := Lib.cells_of_tab he hu hcu hce h1
      rw [List.map_append, ← q0, ← q1]
      simp only [Nat.zero_mul, List.drop_zero, Nat.one_mul]
      have hl' : cs.length = 12 := by simpa using hl
      rw [List.take_of_length_le (show (cs.drop 6).length ≤ 6 by simp [hl']), List.take_append_drop]
    · cases h
theorem tabF_of_laid {W : World} {rest : List (String × DataW Unit)} {g : Nat} {t e u : TypeId}
    (hg : Tryd.prog.globalNamed "loop.example/g00012/impl.streamFollows" = some g) (hty : (Tryd.prog.globals[g]?).map (·.type) = some t) (ht : Tryd.prog.underlying t = some (.array 2 e)) (he : Tryd.prog.underlying e = some (.array 6 u)) (hu : Tryd.prog.underlying u = some (.int .u8)) (hcu : Tryd.prog.cellsOf u = 1) (hce : Tryd.prog.cellsOf e = 6) (hct : Tryd.prog.cellsOf t = 12)
    (h : laidMet Tryd.prog (("loop.example/g00012/impl.streamFollows", .agg [Lib.tabData .u8 [18, 20, 8, 0, 32, 0], Lib.tabData .u8 [22, 20, 24, 0, 32, 0]]) :: rest) W) : TabF W := by
  have h0 := h
  obtain ⟨ps, ⟨g', t', cs, fuel, p, q, hg', ht', hvar, hd, _, _⟩, _⟩ := h
  obtain rfl := Option.some.inj (hg.symm.trans hg')
  obtain rfl := Option.some.inj (hty.symm.trans ht')
  have hcs := cells_of_tab2 ht he hu hcu hce hct hd
  have hcs' : cs = (([18, 20, 8, 0, 32, 0] ++ [22, 20, 24, 0, 32, 0] : List Int).map fun z => Value.int .u8 z).toArray := by rw [← hcs]
  subst hcs'
  have eg : g = 0 := Option.some.inj (hg.symm.trans (by kernel_rfl))
  subst eg
  have cell : ∀ i, W.cell? ⟨0, i, none⟩ = _ := fun i => World.var?_cell hg hvar i
  exact ⟨cell 0, cell 1, cell 2, cell 3, cell 4, cell 5, cell 6, cell 7, cell 8, cell 9, cell 10, cell 11⟩
end Go.Proofs.YtajachmhppoodaaDoor

namespace Go.Proofs.YtajachmhppoodaaDoor
open Go.RowKit
set_option linter.unusedVariables false

/-- What markRecvOpS writes into one that begins at q. -/
def SRecvOp.mq (q : Int) (e : SRecvOp) : SRecvOp := ⟨q, q + 1, q + 2, marks (q + 3) e.d.length, ((q + 3 + (e.d.length : Int)) % 3 == 0)⟩
def marksRecvOp (q : Int) (L : List SRecvOp) : List SRecvOp := (List.range L.length).map fun j => (L.getD j default).mq (q + (sumB 4 SRecvOp.d L j : Int))
theorem marksRecvOp_length (q : Int) (L : List SRecvOp) : (marksRecvOp q L).length = L.length := by simp [marksRecvOp]
theorem marksRecvOp_at (q : Int) (L : List SRecvOp) (j : Nat) (h : j < L.length) : (marksRecvOp q L).getD j default = (L.getD j default).mq (q + (sumB 4 SRecvOp.d L j : Int)) := by simp [marksRecvOp, List.getD, h]
theorem markRecvOpS_nil (q : Int) (ao : Option Addr) (cp : Nat) (w : World) :
    Calls Tryd.prog 11 #[.slice ao 0 cp, .int .i64 q] w fun e w' => e = .returned (.int .i64 q) ∧ w' = w := by
  go_enter Tryd.func11, Tryd.ntmps11
  go_wp2
  refine wp_loop_rounds 1 ?_
  rw [rounds_succ]
  go_wp2
  go_ret
  exact ⟨rfl, rfl⟩
set_option maxRecDepth 20000 in
set_option maxHeartbeats 4000000 in
theorem markRecvOpS_core (q : Int) (L : List SRecvOp) (U : Nat → Value) (n base g cap Bh : Nat) (zs0 : List Value) (w : World) (en : n = L.length) (hn : n ≤ 1048576) (hS : sumB 4 SRecvOp.d L n ≤ 1099511627776) (hq0 : 0 ≤ q) (hq1 : q ≤ 1099511627776) (hg : base ≤ g) (hgB : g < Bh)
    (hUB : ∀ j, j < n → ∀ k, (U j).ownBlock = some k → k < Bh) (hown0 : w.ownsRow base 56 5 (.slice (some ⟨g, 0, none⟩) n cap) n zs0) (hl0 : zs0.length = n * 5) (hz0 : ∀ j, j < n → ∀ f, f < 5 → zs0[j * 5 + f]? = ((L.getD j default).c (U j))[f]?)
    (hi0 : ∀ j, j < n → w.ownsRow base 5 1 (U j) (L.getD j default).d.length ((L.getD j default).d.map (Value.int .u8))) (hap : ∀ (i j : Nat), i < j → j < n → ∀ t, (U j).ownBlock = some t → some t ≠ (U i).ownBlock) :
    Calls Tryd.prog 11 #[.slice (some ⟨g, 0, none⟩) n cap, .int .i64 q] w fun e w' => e = .returned (.int .i64 (q + (sumB 4 SRecvOp.d L n : Int))) ∧
      (∃ zs : List Value, zs.length = n * 5 ∧ (∀ j : Nat, j < n → ∀ f, f < 5 → zs[j * 5 + f]? = (((L.getD j default).mq (q + (sumB 4 SRecvOp.d L j : Int))).c (U j))[f]?) ∧ w'.ownsRow base 56 5 (.slice (some ⟨g, 0, none⟩) n cap) n zs) ∧
      (∀ j, j < n → w'.ownsRow base 5 1 (U j) (L.getD j default).d.length ((marks (q + (sumB 4 SRecvOp.d L j : Int) + 3) (L.getD j default).d.length).map (Value.int .u8))) ∧ Below base w w' ∧ w'.heap.size = w.heap.size ∧ (∀ k, Bh ≤ k → k < w.heap.size → w'.heap[k]? = w.heap[k]?) := by
  have H0 : Hid _ := And.intro hown0 (And.intro hl0 (And.intro hz0 (And.intro hi0 (And.intro hap (And.intro hUB (And.intro en hS))))))
  clear hown0 hl0 hz0 hi0 hap hUB en hS
  go_enter Tryd.func11, Tryd.ntmps11
  go_wp2
  go_loopg [1, 5] n (fun z s i wr => ∃ k : Nat, k ≤ n ∧ z = n - k ∧ i = .int .i64 k ∧ s = .int .i64 (q + (sumB 4 SRecvOp.d L k : Int)) ∧ ∃ zs : List Value, zs.length = n * 5 ∧ (∀ j : Nat, j < n → ∀ f, f < 5 → zs[j * 5 + f]? = (if j < k then ((L.getD j default).mq (q + (sumB 4 SRecvOp.d L j : Int))).c (U j) else (L.getD j default).c (U j))[f]?) ∧
      wr.ownsRow base 56 5 (.slice (some ⟨g, 0, none⟩) n cap) n zs ∧ (∀ j, j < n → (j < k → wr.ownsRow base 5 1 (U j) (L.getD j default).d.length ((marks (q + (sumB 4 SRecvOp.d L j : Int) + 3) (L.getD j default).d.length).map (Value.int .u8))) ∧ (k ≤ j → wr.ownsRow base 5 1 (U j) (L.getD j default).d.length ((L.getD j default).d.map (Value.int .u8)))) ∧ Below base w wr ∧ wr.heap.size = w.heap.size ∧ (∀ k, Bh ≤ k → k < w.heap.size → wr.heap[k]? = w.heap[k]?))
  case atStart => exact ⟨0, Nat.zero_le _, by omega, rfl, by simp [sumB], zs0, H0.out.2.1, fun j hj f hf => by rw [if_neg (by omega)]; exact H0.out.2.2.1 j hj f hf, H0.out.1, fun j hj => ⟨fun h => by omega, fun _ => H0.out.2.2.2.1 j hj⟩, Below.refl _ _, rfl, fun _ _ _ => rfl⟩
  case round =>
    obtain ⟨k, hk, hzz, rfl, rfl, zs, hl, hm, hown, hin, hb, hz, hh⟩ := hrel
    by_cases hlt : k < n
    · have hgl : g < wr.heap.size := (hown.lt g rfl).2
      obtain ⟨uk, euk⟩ : ∃ u, u = U k := ⟨_, rfl⟩
      have hcz := hm k hlt
      rw [if_neg (by omega), ← euk] at hcz
      have hzB : zs[k * 5 + 3]? = some uk := hcz 3 (by omega)
      have ink := (hin k hlt).2 (Nat.le_refl _)
      rw [← euk] at ink
      have d0 : k * 5 < n * 5 := by omega
      obtain ⟨z0, hz0'⟩ : ∃ z, zs[k * 5]? = some z := ⟨zs[k * 5]'(by omega), by simp [hl, d0]⟩
      have r0 := hown.cellAt (k * 5) d0
      rw [hz0'] at r0
      have p0 := hown.frozenAt (k * 5)
      have d1 : k * 5 + 1 < n * 5 := by omega
      obtain ⟨z1, hz1'⟩ : ∃ z, zs[k * 5 + 1]? = some z := ⟨zs[k * 5 + 1]'(by omega), by simp [hl, d1]⟩
      have r1 := hown.cellAt (k * 5 + 1) d1
      rw [hz1'] at r1
      have p1 := hown.frozenAt (k * 5 + 1)
      have d2 : k * 5 + 2 < n * 5 := by omega
      obtain ⟨z2, hz2'⟩ : ∃ z, zs[k * 5 + 2]? = some z := ⟨zs[k * 5 + 2]'(by omega), by simp [hl, d2]⟩
      have r2 := hown.cellAt (k * 5 + 2) d2
      rw [hz2'] at r2
      have p2 := hown.frozenAt (k * 5 + 2)
      have d3 : k * 5 + 3 < n * 5 := by omega
      have r3 := hown.cellAt (k * 5 + 3) d3
      rw [hzB] at r3
      have d4 : k * 5 + 4 < n * 5 := by omega
      obtain ⟨z4, hz4'⟩ : ∃ z, zs[k * 5 + 4]? = some z := ⟨zs[k * 5 + 4]'(by omega), by simp [hl, d4]⟩
      have r4 := hown.cellAt (k * 5 + 4) d4
      rw [hz4'] at r4
      have p4 := hown.frozenAt (k * 5 + 4)
      have hsk := sumB_mono 4 SRecvOp.d L (show k + 1 ≤ n by omega)
      have hs1 : sumB 4 SRecvOp.d L (k + 1) = sumB 4 SRecvOp.d L k + (4 + (L.getD k default).d.length) := rfl
      have hS := H0.out.2.2.2.2.2.2.2
      obtain ⟨s, es⟩ : ∃ s, s = q + (sumB 4 SRecvOp.d L k : Int) := ⟨_, rfl⟩
      obtain ⟨ln, eln⟩ : ∃ ln, ln = (L.getD k default).d.length := ⟨_, rfl⟩
      have hs0 : 0 ≤ s ∧ s + 3 + (ln : Int) ≤ 4398046511104 := by omega
      obtain ⟨s2, es2⟩ : ∃ s2, s2 = s + 3 + (ln : Int) := ⟨_, rfl⟩
      have hs2 : 0 ≤ s2 ∧ s2 ≤ 4398046511104 := by omega
      rw [← es]
      obtain ⟨tb4, etb4⟩ : ∃ tb : Bool, tb = ((s2) % 3 == 0) := ⟨_, rfl⟩
      have htb4 : ((s2).tmod 3 == 0) = tb4 := by rw [etb4, Int.tmod_eq_emod_of_nonneg (by omega)]
      have htc4 : ((s2) % 3 == 0) = tb4 := by rw [etb4]
      have HT4 : Hid _ := And.intro etb4 True.intro
      clear etb4
      have w0 : IntKind.i64.wrap (s + 1) = s + 1 := by rw [IntKind.wrap_i64]; omega
      have w1 : IntKind.i64.wrap (s + 1 + 1) = s + 1 + 1 := by rw [IntKind.wrap_i64]; omega
      have w2 : IntKind.i64.wrap (s + 1 + 1 + 1) = s + 1 + 1 + 1 := by rw [IntKind.wrap_i64]; omega
      have w4 : IntKind.i64.wrap (s2 + 1) = s2 + 1 := by rw [IntKind.wrap_i64]; omega
      obtain ⟨wA, ewA⟩ : ∃ wA : World, wA = (((wr.setCell ⟨g, k * 5, none⟩ (.int .i64 (s))).setCell ⟨g, k * 5 + 1, none⟩ (.int .i64 (s + 1))).setCell ⟨g, k * 5 + 2, none⟩ (.int .i64 (s + 1 + 1))) := ⟨_, rfl⟩
      obtain ⟨zA, ezA⟩ : ∃ zA : List Value, zA = (((zs.set (k * 5) (.int .i64 (s))).set (k * 5 + 1) (.int .i64 (s + 1))).set (k * 5 + 2) (.int .i64 (s + 1 + 1))) := ⟨_, rfl⟩
      have apg : ∀ j, j < n → ∀ t, (U j).ownBlock = some t → some t ≠ some g := fun j hj t ht e => by
        have h1 : ∃ xs, wr.ownsRow base 5 1 (U j) (L.getD j default).d.length xs := by
          by_cases hjk : j < k
          · exact ⟨_, (hin j hj).1 hjk⟩
          · exact ⟨_, (hin j hj).2 (by omega)⟩
        obtain ⟨xs, h1⟩ := h1
        exact types_apartB (by decide) hown h1 g rfl (by rw [← e, ht])
      have ownA : wA.ownsRow base 56 5 (.slice (some ⟨g, 0, none⟩) n cap) n zA := by rw [ewA, ezA]; exact (((hown.stored (k * 5) (.int .i64 (s))).1.stored (k * 5 + 1) (.int .i64 (s + 1))).1.stored (k * 5 + 2) (.int .i64 (s + 1 + 1))).1
      have innA : ∀ {xs : List Value} {ln : Nat} (j : Nat) (hj : j < n), wr.ownsRow base 5 1 (U j) ln xs → wA.ownsRow base 5 1 (U j) ln xs := fun {xs ln} j hj t => by rw [ewA]; exact (Only.setCell (w := _) ⟨g, k * 5 + 2, none⟩ (.int .i64 (s + 1 + 1))).owns ((Only.setCell (w := _) ⟨g, k * 5 + 1, none⟩ (.int .i64 (s + 1))).owns ((Only.setCell (w := _) ⟨g, k * 5, none⟩ (.int .i64 (s))).owns (t) (apg j hj)) (apg j hj)) (apg j hj)
      have belA : Below base w wA := by rw [ewA]; exact (((hb.setCell (p := ⟨g, k * 5, none⟩) hg (.int .i64 (s))).setCell (p := ⟨g, k * 5 + 1, none⟩) hg (.int .i64 (s + 1))).setCell (p := ⟨g, k * 5 + 2, none⟩) hg (.int .i64 (s + 1 + 1)))
      have szA : wA.heap.size = w.heap.size := by rw [ewA, ← hz]; simp [World.setCell]
      have hhA : ∀ t, Bh ≤ t → t < w.heap.size → wA.heap[t]? = w.heap[t]? := fun t ht ht2 => by rw [ewA]; exact (bk_other (show t ≠ g by omega) (k * 5 + 2) (.int .i64 (s + 1 + 1))).trans ((bk_other (show t ≠ g by omega) (k * 5 + 1) (.int .i64 (s + 1))).trans ((bk_other (show t ≠ g by omega) (k * 5) (.int .i64 (s))).trans (hh t ht ht2)))
      have C := markBytes (s + 1 + 1 + 1) ln base uk (L.getD k default).d wA (by omega) (by omega) (by omega) (by rw [eln, euk]; exact innA k hlt (by rw [← euk]; exact ink))
      have eS2 : (s + 1 + 1 + 1) + (ln : Int) = s2 := by rw [es2]; omega
      rw [eS2] at C
      have H2 : Hid _ := And.intro es (And.intro es2 (And.intro eln (And.intro hl (And.intro hm (And.intro ownA (And.intro (fun {xs} {ln} => @innA xs ln) (And.intro belA (And.intro szA (And.intro hhA (And.intro hin (And.intro euk (And.intro ezA (And.intro C (And.intro ink (And.intro hs1 apg)))))))))))))))
      clear es es2 eln hl hm hown ownA innA belA szA hhA hin euk C hb hz hh hcz ink hs1 hsk hS eS2 apg
      have ewA' : Hid _ := And.intro ewA True.intro
      subst ewA
      go_wp2_with fail
      go_at_call 34
      refine (H2.out.2.2.2.2.2.2.2.2.2.2.2.2.2.1).mono ?_
      rintro e w2 ⟨rfl, o2, b2, z2, n2⟩
      rw [H2.out.2.2.2.2.2.2.2.2.2.2.2.1] at n2
      have own2 := n2.owns H2.out.2.2.2.2.2.1 (fun t ht => types_apartB (by decide) H2.out.2.2.2.2.2.1 (H2.out.2.2.2.2.2.2.1 k hlt (by have e := H2.out.2.2.2.2.2.2.2.2.2.2.2.1; rw [← e]; exact H2.out.2.2.2.2.2.2.2.2.2.2.2.2.2.2.1)) t ht)

      have t4 : w2.cell? ⟨g, k * 5 + 4, none⟩ = some z4 := by
        have t := own2.cellAt (k * 5 + 4) d4
        rw [t, H2.out.2.2.2.2.2.2.2.2.2.2.2.2.1, List.getElem?_set_ne (by omega), List.getElem?_set_ne (by omega), List.getElem?_set_ne (by omega)]; exact hz4'
      have q4 := own2.frozenAt (k * 5 + 4)
      have H3 : Hid _ := And.intro own2 (And.intro b2 (And.intro z2 (And.intro n2 o2)))
      clear own2 b2 z2 n2 o2 hz0' hz1' hz2' hz4'
      go_wp2
      go_roundg (n - (k + 1))
      case measure => omega
      case rel =>
        obtain ⟨es, es2, eln, hl, hm, ownA, innA, belA, szA, hhA, hin, euk, ezA, C, ink, hs1, apg⟩ := H2.out
        obtain ⟨own2, b2, z2, n2, o2⟩ := H3.out
        refine ⟨k + 1, by omega, rfl, by go_num, by rw [hs1, ← eln]; congr 1; omega, (zA.set (k * 5 + 4) (.bool tb4)), by rw [ezA]; simp only [List.length_set]; exact hl, fun j hj f hf => ?_, (own2.stored (k * 5 + 4) _).1, fun j hj => ?_, ((H2.out.2.2.2.2.2.2.2.1.trans H3.out.2.1).setCell (p := ⟨g, k * 5 + 4, none⟩) hg _), by rw [← szA, ← z2]; simp [World.setCell], fun t ht ht2 => ?_⟩
        · rw [ezA]
          by_cases hjk : j = k
          · subst hjk
            have hc := hm j hj
            rw [if_neg (by omega)] at hc
            rw [if_pos (by omega), ← es]
            unfold SRecvOp.mq SRecvOp.c
            obtain rfl | rfl | rfl | rfl | rfl : f = 0 ∨ f = 1 ∨ f = 2 ∨ f = 3 ∨ f = 4 := by omega
            · rw [show j * 5 + 0 = j * 5 from rfl, List.getElem?_set_ne (by omega), List.getElem?_set_ne (by omega), List.getElem?_set_ne (by omega), List.getElem?_set_self (by first | omega | (simp only [List.length_set]; omega))]; rfl
            · rw [List.getElem?_set_ne (by omega), List.getElem?_set_ne (by omega), List.getElem?_set_self (by first | omega | (simp only [List.length_set]; omega))]; first | rfl | exact congrArg some (congrArg (Value.int .i64) (show s + 1 = s + 1 by omega))
            · rw [List.getElem?_set_ne (by omega), List.getElem?_set_self (by first | omega | (simp only [List.length_set]; omega))]; first | rfl | exact congrArg some (congrArg (Value.int .i64) (show s + 1 + 1 = s + 2 by omega))
            · rw [List.getElem?_set_ne (by omega), List.getElem?_set_ne (by omega), List.getElem?_set_ne (by omega), List.getElem?_set_ne (by omega)]; exact hc 3 (by omega)
            · rw [List.getElem?_set_self (by first | omega | (simp only [List.length_set]; omega)), HT4.out.1, es2, eln]; exact congrArg some (congrArg Value.bool (congrArg (fun z : Int => z % 3 == 0) (by omega)))
          · rw [List.getElem?_set_ne (by omega), List.getElem?_set_ne (by omega), List.getElem?_set_ne (by omega), List.getElem?_set_ne (by omega)]
            have hc := hm j hj f hf
            by_cases hj2 : j < k
            · rw [if_pos hj2] at hc; rw [if_pos (by omega)]; exact hc
            · rw [if_neg hj2] at hc; rw [if_neg (by omega)]; exact hc
        · refine ⟨fun hjk => ?_, fun hkj => ?_⟩
          · by_cases e : j = k
            · have t := o2
              rw [euk, eln, es] at t
              try rw [show q + (sumB 4 SRecvOp.d L k : Int) + 1 + 1 + 1 = q + (sumB 4 SRecvOp.d L k : Int) + 3 by omega] at t
              rw [e]
              exact (Only.setCell (w := _) ⟨g, k * 5 + 4, none⟩ (.bool tb4)).owns (t) (H2.out.2.2.2.2.2.2.2.2.2.2.2.2.2.2.2.2 k hlt)
            · have t := n2.owns (innA j hj ((hin j hj).1 (by omega))) (fun t ht e3 => H0.out.2.2.2.2.1 j k (by omega) hlt t e3.symm ht.symm)
              exact (Only.setCell (w := _) ⟨g, k * 5 + 4, none⟩ (.bool tb4)).owns (t) (H2.out.2.2.2.2.2.2.2.2.2.2.2.2.2.2.2.2 j hj)
          · have t := n2.owns (innA j hj ((hin j hj).2 (by omega))) (fun t ht => H0.out.2.2.2.2.1 k j (by omega) hj t ht)
            exact (Only.setCell (w := _) ⟨g, k * 5 + 4, none⟩ (.bool tb4)).owns (t) (H2.out.2.2.2.2.2.2.2.2.2.2.2.2.2.2.2.2 j hj)
        · exact (bk_other (show t ≠ g by omega) (k * 5 + 4) (.bool tb4)).trans ((n2.block t (fun e => by have := H0.out.2.2.2.2.2.1 k hlt t e.symm; omega)).trans (hhA t ht ht2))
    · obtain rfl : k = n := by omega
      have HR : Hid _ := And.intro hl (And.intro hm (And.intro hown (And.intro hin (And.intro hb (And.intro hz hh)))))
      clear hl hm hown hin hb hz hh
      go_wp2
      go_ret
      obtain ⟨r1, r2, r3, r4, r5, r6, r7⟩ := HR.out
      exact ⟨rfl, ⟨zs, r1, fun j hj f hf => by have t := r2 j hj f hf; rw [if_pos hj] at t; exact t, r3⟩, fun j hj => (r4 j hj).1 hj, r5, r6, r7⟩
theorem markRecvOpS (q : Int) (base Bh : Nat) (v : Value) (L : List SRecvOp) (w : World) (hn : L.length ≤ 1048576) (hS : sumB 4 SRecvOp.d L L.length ≤ 1099511627776) (hq0 : 0 ≤ q) (hq1 : q ≤ 1099511627776) (h : BOwns 56 5 SRecvOp.c SRecvOp.d w base v L) (hB : BLo 56 5 SRecvOp.c SRecvOp.d w base v L Bh) :
    Calls Tryd.prog 11 #[v, .int .i64 q] w fun e w' => e = .returned (.int .i64 (q + (sumB 4 SRecvOp.d L L.length : Int))) ∧ BOwns 56 5 SRecvOp.c SRecvOp.d w' base v (marksRecvOp q L) ∧ Below base w w' ∧ w'.heap.size = w.heap.size ∧ (∀ k, Bh ≤ k → k < w.heap.size → w'.heap[k]? = w.heap[k]?) := by
  obtain ⟨U, ⟨zs, ho, hz⟩, hi, hap, hgB, hUB⟩ := hB
  rw [zl_length] at ho hz
  have hl : zs.length = L.length * 5 := ho.1
  have hz' : ∀ j, j < L.length → ∀ f, f < 5 → zs[j * 5 + f]? = ((L.getD j default).c (U j))[f]? := fun j hj f hf => by rw [← zl_at SRecvOp.c L U j hj]; exact hz j hj f hf
  rcases ho.2 with ⟨rfl, h0⟩ | ⟨g, cap, cur, rfl, hg, hh, r⟩
  · have hR : L = [] := List.eq_nil_of_length_eq_zero h0
    subst hR
    refine (markRecvOpS_nil q _ _ w).mono ?_
    rintro e w' ⟨rfl, rfl⟩
    exact ⟨by simp [sumB], h, Below.refl _ _, rfl, fun _ _ _ => rfl⟩
  · refine (markRecvOpS_core q L U L.length base g cap Bh zs w rfl hn hS hq0 hq1 hg (hgB g rfl) hUB ho hl hz' hi hap).mono ?_
    rintro e w' ⟨rfl, ⟨ys, hy0, hy, ho2⟩, hi2, hb, hz2, hon⟩
    refine ⟨rfl, ⟨U, ⟨ys, by rw [zl_length, marksRecvOp_length]; exact ho2, fun j hj f hf => ?_⟩, fun j hj => ?_, fun i j hij hj => hap i j hij (by rw [marksRecvOp_length] at hj; exact hj)⟩, hb, hz2, hon⟩
    · rw [zl_length, marksRecvOp_length] at hj
      rw [zl_at _ _ _ _ (by rw [marksRecvOp_length]; exact hj), marksRecvOp_at _ _ _ hj]
      exact hy j hj f hf
    · rw [marksRecvOp_length] at hj
      rw [marksRecvOp_at _ _ _ hj]
      have t := hi2 j hj
      have e1 : ((L.getD j default).mq (q + (sumB 4 SRecvOp.d L j : Int))).d = marks (q + (sumB 4 SRecvOp.d L j : Int) + 3) (L.getD j default).d.length := rfl
      rw [e1, marks_length]
      exact t
end Go.Proofs.YtajachmhppoodaaDoor

namespace Go.Proofs.YtajachmhppoodaaDoor
open Go.RowKit
set_option linter.unusedVariables false

/-- What markRecvObsS writes into one that begins at q. -/
def SRecvObs.mq (q : Int) (e : SRecvObs) : SRecvObs := ⟨q, q + 1, q + 2, marks (q + 3) e.d.length, ((q + 3 + (e.d.length : Int)) % 3 == 0)⟩
def marksRecvObs (q : Int) (L : List SRecvObs) : List SRecvObs := (List.range L.length).map fun j => (L.getD j default).mq (q + (sumB 4 SRecvObs.d L j : Int))
theorem marksRecvObs_length (q : Int) (L : List SRecvObs) : (marksRecvObs q L).length = L.length := by simp [marksRecvObs]
theorem marksRecvObs_at (q : Int) (L : List SRecvObs) (j : Nat) (h : j < L.length) : (marksRecvObs q L).getD j default = (L.getD j default).mq (q + (sumB 4 SRecvObs.d L j : Int)) := by simp [marksRecvObs, List.getD, h]
theorem markRecvObsS_nil (q : Int) (ao : Option Addr) (cp : Nat) (w : World) :
    Calls Tryd.prog 12 #[.slice ao 0 cp, .int .i64 q] w fun e w' => e = .returned (.int .i64 q) ∧ w' = w := by
  go_enter Tryd.func12, Tryd.ntmps12
  go_wp2
  refine wp_loop_rounds 1 ?_
  rw [rounds_succ]
  go_wp2
  go_ret
  exact ⟨rfl, rfl⟩
set_option maxRecDepth 20000 in
set_option maxHeartbeats 4000000 in
theorem markRecvObsS_core (q : Int) (L : List SRecvObs) (U : Nat → Value) (n base g cap Bh : Nat) (zs0 : List Value) (w : World) (en : n = L.length) (hn : n ≤ 1048576) (hS : sumB 4 SRecvObs.d L n ≤ 1099511627776) (hq0 : 0 ≤ q) (hq1 : q ≤ 1099511627776) (hg : base ≤ g) (hgB : g < Bh)
    (hUB : ∀ j, j < n → ∀ k, (U j).ownBlock = some k → k < Bh) (hown0 : w.ownsRow base 55 5 (.slice (some ⟨g, 0, none⟩) n cap) n zs0) (hl0 : zs0.length = n * 5) (hz0 : ∀ j, j < n → ∀ f, f < 5 → zs0[j * 5 + f]? = ((L.getD j default).c (U j))[f]?)
    (hi0 : ∀ j, j < n → w.ownsRow base 5 1 (U j) (L.getD j default).d.length ((L.getD j default).d.map (Value.int .u8))) (hap : ∀ (i j : Nat), i < j → j < n → ∀ t, (U j).ownBlock = some t → some t ≠ (U i).ownBlock) :
    Calls Tryd.prog 12 #[.slice (some ⟨g, 0, none⟩) n cap, .int .i64 q] w fun e w' => e = .returned (.int .i64 (q + (sumB 4 SRecvObs.d L n : Int))) ∧
      (∃ zs : List Value, zs.length = n * 5 ∧ (∀ j : Nat, j < n → ∀ f, f < 5 → zs[j * 5 + f]? = (((L.getD j default).mq (q + (sumB 4 SRecvObs.d L j : Int))).c (U j))[f]?) ∧ w'.ownsRow base 55 5 (.slice (some ⟨g, 0, none⟩) n cap) n zs) ∧
      (∀ j, j < n → w'.ownsRow base 5 1 (U j) (L.getD j default).d.length ((marks (q + (sumB 4 SRecvObs.d L j : Int) + 3) (L.getD j default).d.length).map (Value.int .u8))) ∧ Below base w w' ∧ w'.heap.size = w.heap.size ∧ (∀ k, Bh ≤ k → k < w.heap.size → w'.heap[k]? = w.heap[k]?) := by
  have H0 : Hid _ := And.intro hown0 (And.intro hl0 (And.intro hz0 (And.intro hi0 (And.intro hap (And.intro hUB (And.intro en hS))))))
  clear hown0 hl0 hz0 hi0 hap hUB en hS
  go_enter Tryd.func12, Tryd.ntmps12
  go_wp2
  go_loopg [1, 5] n (fun z s i wr => ∃ k : Nat, k ≤ n ∧ z = n - k ∧ i = .int .i64 k ∧ s = .int .i64 (q + (sumB 4 SRecvObs.d L k : Int)) ∧ ∃ zs : List Value, zs.length = n * 5 ∧ (∀ j : Nat, j < n → ∀ f, f < 5 → zs[j * 5 + f]? = (if j < k then ((L.getD j default).mq (q + (sumB 4 SRecvObs.d L j : Int))).c (U j) else (L.getD j default).c (U j))[f]?) ∧
      wr.ownsRow base 55 5 (.slice (some ⟨g, 0, none⟩) n cap) n zs ∧ (∀ j, j < n → (j < k → wr.ownsRow base 5 1 (U j) (L.getD j default).d.length ((marks (q + (sumB 4 SRecvObs.d L j : Int) + 3) (L.getD j default).d.length).map (Value.int .u8))) ∧ (k ≤ j → wr.ownsRow base 5 1 (U j) (L.getD j default).d.length ((L.getD j default).d.map (Value.int .u8)))) ∧ Below base w wr ∧ wr.heap.size = w.heap.size ∧ (∀ k, Bh ≤ k → k < w.heap.size → wr.heap[k]? = w.heap[k]?))
  case atStart => exact ⟨0, Nat.zero_le _, by omega, rfl, by simp [sumB], zs0, H0.out.2.1, fun j hj f hf => by rw [if_neg (by omega)]; exact H0.out.2.2.1 j hj f hf, H0.out.1, fun j hj => ⟨fun h => by omega, fun _ => H0.out.2.2.2.1 j hj⟩, Below.refl _ _, rfl, fun _ _ _ => rfl⟩
  case round =>
    obtain ⟨k, hk, hzz, rfl, rfl, zs, hl, hm, hown, hin, hb, hz, hh⟩ := hrel
    by_cases hlt : k < n
    · have hgl : g < wr.heap.size := (hown.lt g rfl).2
      obtain ⟨uk, euk⟩ : ∃ u, u = U k := ⟨_, rfl⟩
      have hcz := hm k hlt
      rw [if_neg (by omega), ← euk] at hcz
      have hzB : zs[k * 5 + 3]? = some uk := hcz 3 (by omega)
      have ink := (hin k hlt).2 (Nat.le_refl _)
      rw [← euk] at ink
      have d0 : k * 5 < n * 5 := by omega
      obtain ⟨z0, hz0'⟩ : ∃ z, zs[k * 5]? = some z := ⟨zs[k * 5]'(by omega), by simp [hl, d0]⟩
      have r0 := hown.cellAt (k * 5) d0
      rw [hz0'] at r0
      have p0 := hown.frozenAt (k * 5)
      have d1 : k * 5 + 1 < n * 5 := by omega
      obtain ⟨z1, hz1'⟩ : ∃ z, zs[k * 5 + 1]? = some z := ⟨zs[k * 5 + 1]'(by omega), by simp [hl, d1]⟩
      have r1 := hown.cellAt (k * 5 + 1) d1
      rw [hz1'] at r1
      have p1 := hown.frozenAt (k * 5 + 1)
      have d2 : k * 5 + 2 < n * 5 := by omega
      obtain ⟨z2, hz2'⟩ : ∃ z, zs[k * 5 + 2]? = some z := ⟨zs[k * 5 + 2]'(by omega), by simp [hl, d2]⟩
      have r2 := hown.cellAt (k * 5 + 2) d2
      rw [hz2'] at r2
      have p2 := hown.frozenAt (k * 5 + 2)
      have d3 : k * 5 + 3 < n * 5 := by omega
      have r3 := hown.cellAt (k * 5 + 3) d3
      rw [hzB] at r3
      have d4 : k * 5 + 4 < n * 5 := by omega
      obtain ⟨z4, hz4'⟩ : ∃ z, zs[k * 5 + 4]? = some z := ⟨zs[k * 5 + 4]'(by omega), by simp [hl, d4]⟩
      have r4 := hown.cellAt (k * 5 + 4) d4
      rw [hz4'] at r4
      have p4 := hown.frozenAt (k * 5 + 4)
      have hsk := sumB_mono 4 SRecvObs.d L (show k + 1 ≤ n by omega)
      have hs1 : sumB 4 SRecvObs.d L (k + 1) = sumB 4 SRecvObs.d L k + (4 + (L.getD k default).d.length) := rfl
      have hS := H0.out.2.2.2.2.2.2.2
      obtain ⟨s, es⟩ : ∃ s, s = q + (sumB 4 SRecvObs.d L k : Int) := ⟨_, rfl⟩
      obtain ⟨ln, eln⟩ : ∃ ln, ln = (L.getD k default).d.length := ⟨_, rfl⟩
      have hs0 : 0 ≤ s ∧ s + 3 + (ln : Int) ≤ 4398046511104 := by omega
      obtain ⟨s2, es2⟩ : ∃ s2, s2 = s + 3 + (ln : Int) := ⟨_, rfl⟩
      have hs2 : 0 ≤ s2 ∧ s2 ≤ 4398046511104 := by omega
      rw [← es]
      obtain ⟨tb4, etb4⟩ : ∃ tb : Bool, tb = ((s2) % 3 == 0) := ⟨_, rfl⟩
      have htb4 : ((s2).tmod 3 == 0) = tb4 := by rw [etb4, Int.tmod_eq_emod_of_nonneg (by omega)]
      have htc4 : ((s2) % 3 == 0) = tb4 := by rw [etb4]
      have HT4 : Hid _ := And.intro etb4 True.intro
      clear etb4
      have w0 : IntKind.i64.wrap (s + 1) = s + 1 := by rw [IntKind.wrap_i64]; omega
      have w1 : IntKind.i64.wrap (s + 1 + 1) = s + 1 + 1 := by rw [IntKind.wrap_i64]; omega
      have w2 : IntKind.i64.wrap (s + 1 + 1 + 1) = s + 1 + 1 + 1 := by rw [IntKind.wrap_i64]; omega
      have w4 : IntKind.i64.wrap (s2 + 1) = s2 + 1 := by rw [IntKind.wrap_i64]; omega
      obtain ⟨wA, ewA⟩ : ∃ wA : World, wA = (((wr.setCell ⟨g, k * 5, none⟩ (.int .i64 (s))).setCell ⟨g, k * 5 + 1, none⟩ (.int .i64 (s + 1))).setCell ⟨g, k * 5 + 2, none⟩ (.int .i64 (s + 1 + 1))) := ⟨_, rfl⟩
      obtain ⟨zA, ezA⟩ : ∃ zA : List Value, zA = (((zs.set (k * 5) (.int .i64 (s))).set (k * 5 + 1) (.int .i64 (s + 1))).set (k * 5 + 2) (.int .i64 (s + 1 + 1))) := ⟨_, rfl⟩
      have apg : ∀ j, j < n → ∀ t, (U j).ownBlock = some t → some t ≠ some g := fun j hj t ht e => by
        have h1 : ∃ xs, wr.ownsRow base 5 1 (U j) (L.getD j default).d.length xs := by
          by_cases hjk : j < k
          · exact ⟨_, (hin j hj).1 hjk⟩
          · exact ⟨_, (hin j hj).2 (by omega)⟩
        obtain ⟨xs, h1⟩ := h1
        exact types_apartB (by decide) hown h1 g rfl (by rw [← e, ht])
      have ownA : wA.ownsRow base 55 5 (.slice (some ⟨g, 0, none⟩) n cap) n zA := by rw [ewA, ezA]; exact (((hown.stored (k * 5) (.int .i64 (s))).1.stored (k * 5 + 1) (.int .i64 (s + 1))).1.stored (k * 5 + 2) (.int .i64 (s + 1 + 1))).1
      have innA : ∀ {xs : List Value} {ln : Nat} (j : Nat) (hj : j < n), wr.ownsRow base 5 1 (U j) ln xs → wA.ownsRow base 5 1 (U j) ln xs := fun {xs ln} j hj t => by rw [ewA]; exact (Only.setCell (w := _) ⟨g, k * 5 + 2, none⟩ (.int .i64 (s + 1 + 1))).owns ((Only.setCell (w := _) ⟨g, k * 5 + 1, none⟩ (.int .i64 (s + 1))).owns ((Only.setCell (w := _) ⟨g, k * 5, none⟩ (.int .i64 (s))).owns (t) (apg j hj)) (apg j hj)) (apg j hj)
      have belA : Below base w wA := by rw [ewA]; exact (((hb.setCell (p := ⟨g, k * 5, none⟩) hg (.int .i64 (s))).setCell (p := ⟨g, k * 5 + 1, none⟩) hg (.int .i64 (s + 1))).setCell (p := ⟨g, k * 5 + 2, none⟩) hg (.int .i64 (s + 1 + 1)))
      have szA : wA.heap.size = w.heap.size := by rw [ewA, ← hz]; simp [World.setCell]
      have hhA : ∀ t, Bh ≤ t → t < w.heap.size → wA.heap[t]? = w.heap[t]? := fun t ht ht2 => by rw [ewA]; exact (bk_other (show t ≠ g by omega) (k * 5 + 2) (.int .i64 (s + 1 + 1))).trans ((bk_other (show t ≠ g by omega) (k * 5 + 1) (.int .i64 (s + 1))).trans ((bk_other (show t ≠ g by omega) (k * 5) (.int .i64 (s))).trans (hh t ht ht2)))
      have C := markBytes (s + 1 + 1 + 1) ln base uk (L.getD k default).d wA (by omega) (by omega) (by omega) (by rw [eln, euk]; exact innA k hlt (by rw [← euk]; exact ink))
      have eS2 : (s + 1 + 1 + 1) + (ln : Int) = s2 := by rw [es2]; omega
      rw [eS2] at C
      have H2 : Hid _ := And.intro es (And.intro es2 (And.intro eln (And.intro hl (And.intro hm (And.intro ownA (And.intro (fun {xs} {ln} => @innA xs ln) (And.intro belA (And.intro szA (And.intro hhA (And.intro hin (And.intro euk (And.intro ezA (And.intro C (And.intro ink (And.intro hs1 apg)))))))))))))))
      clear es es2 eln hl hm hown ownA innA belA szA hhA hin euk C hb hz hh hcz ink hs1 hsk hS eS2 apg
      have ewA' : Hid _ := And.intro ewA True.intro
      subst ewA
      go_wp2_with fail
      go_at_call 34
      refine (H2.out.2.2.2.2.2.2.2.2.2.2.2.2.2.1).mono ?_
      rintro e w2 ⟨rfl, o2, b2, z2, n2⟩
      rw [H2.out.2.2.2.2.2.2.2.2.2.2.2.1] at n2
      have own2 := n2.owns H2.out.2.2.2.2.2.1 (fun t ht => types_apartB (by decide) H2.out.2.2.2.2.2.1 (H2.out.2.2.2.2.2.2.1 k hlt (by have e := H2.out.2.2.2.2.2.2.2.2.2.2.2.1; rw [← e]; exact H2.out.2.2.2.2.2.2.2.2.2.2.2.2.2.2.1)) t ht)

      have t4 : w2.cell? ⟨g, k * 5 + 4, none⟩ = some z4 := by
        have t := own2.cellAt (k * 5 + 4) d4
        rw [t, H2.out.2.2.2.2.2.2.2.2.2.2.2.2.1, List.getElem?_set_ne (by omega), List.getElem?_set_ne (by omega), List.getElem?_set_ne (by omega)]; exact hz4'
      have q4 := own2.frozenAt (k * 5 + 4)
      have H3 : Hid _ := And.intro own2 (And.intro b2 (And.intro z2 (And.intro n2 o2)))
      clear own2 b2 z2 n2 o2 hz0' hz1' hz2' hz4'
      go_wp2
      go_roundg (n - (k + 1))
      case measure => omega
      case rel =>
        obtain ⟨es, es2, eln, hl, hm, ownA, innA, belA, szA, hhA, hin, euk, ezA, C, ink, hs1, apg⟩ := H2.out
        obtain ⟨own2, b2, z2, n2, o2⟩ := H3.out
        refine ⟨k + 1, by omega, rfl, by go_num, by rw [hs1, ← eln]; congr 1; omega, (zA.set (k * 5 + 4) (.bool tb4)), by rw [ezA]; simp only [List.length_set]; exact hl, fun j hj f hf => ?_, (own2.stored (k * 5 + 4) _).1, fun j hj => ?_, ((H2.out.2.2.2.2.2.2.2.1.trans H3.out.2.1).setCell (p := ⟨g, k * 5 + 4, none⟩) hg _), by rw [← szA, ← z2]; simp [World.setCell], fun t ht ht2 => ?_⟩
        · rw [ezA]
          by_cases hjk : j = k
          · subst hjk
            have hc := hm j hj
            rw [if_neg (by omega)] at hc
            rw [if_pos (by omega), ← es]
            unfold SRecvObs.mq SRecvObs.c
            obtain rfl | rfl | rfl | rfl | rfl : f = 0 ∨ f = 1 ∨ f = 2 ∨ f = 3 ∨ f = 4 := by omega
            · rw [show j * 5 + 0 = j * 5 from rfl, List.getElem?_set_ne (by omega), List.getElem?_set_ne (by omega), List.getElem?_set_ne (by omega), List.getElem?_set_self (by first | omega | (simp only [List.length_set]; omega))]; rfl
            · rw [List.getElem?_set_ne (by omega), List.getElem?_set_ne (by omega), List.getElem?_set_self (by first | omega | (simp only [List.length_set]; omega))]; first | rfl | exact congrArg some (congrArg (Value.int .i64) (show s + 1 = s + 1 by omega))
            · rw [List.getElem?_set_ne (by omega), List.getElem?_set_self (by first | omega | (simp only [List.length_set]; omega))]; first | rfl | exact congrArg some (congrArg (Value.int .i64) (show s + 1 + 1 = s + 2 by omega))
            · rw [List.getElem?_set_ne (by omega), List.getElem?_set_ne (by omega), List.getElem?_set_ne (by omega), List.getElem?_set_ne (by omega)]; exact hc 3 (by omega)
            · rw [List.getElem?_set_self (by first | omega | (simp only [List.length_set]; omega)), HT4.out.1, es2, eln]; exact congrArg some (congrArg Value.bool (congrArg (fun z : Int => z % 3 == 0) (by omega)))
          · rw [List.getElem?_set_ne (by omega), List.getElem?_set_ne (by omega), List.getElem?_set_ne (by omega), List.getElem?_set_ne (by omega)]
            have hc := hm j hj f hf
            by_cases hj2 : j < k
            · rw [if_pos hj2] at hc; rw [if_pos (by omega)]; exact hc
            · rw [if_neg hj2] at hc; rw [if_neg (by omega)]; exact hc
        · refine ⟨fun hjk => ?_, fun hkj => ?_⟩
          · by_cases e : j = k
            · have t := o2
              rw [euk, eln, es] at t
              try rw [show q + (sumB 4 SRecvObs.d L k : Int) + 1 + 1 + 1 = q + (sumB 4 SRecvObs.d L k : Int) + 3 by omega] at t
              rw [e]
              exact (Only.setCell (w := _) ⟨g, k * 5 + 4, none⟩ (.bool tb4)).owns (t) (H2.out.2.2.2.2.2.2.2.2.2.2.2.2.2.2.2.2 k hlt)
            · have t := n2.owns (innA j hj ((hin j hj).1 (by omega))) (fun t ht e3 => H0.out.2.2.2.2.1 j k (by omega) hlt t e3.symm ht.symm)
              exact (Only.setCell (w := _) ⟨g, k * 5 + 4, none⟩ (.bool tb4)).owns (t) (H2.out.2.2.2.2.2.2.2.2.2.2.2.2.2.2.2.2 j hj)
          · have t := n2.owns (innA j hj ((hin j hj).2 (by omega))) (fun t ht => H0.out.2.2.2.2.1 k j (by omega) hj t ht)
            exact (Only.setCell (w := _) ⟨g, k * 5 + 4, none⟩ (.bool tb4)).owns (t) (H2.out.2.2.2.2.2.2.2.2.2.2.2.2.2.2.2.2 j hj)
        · exact (bk_other (show t ≠ g by omega) (k * 5 + 4) (.bool tb4)).trans ((n2.block t (fun e => by have := H0.out.2.2.2.2.2.1 k hlt t e.symm; omega)).trans (hhA t ht ht2))
    · obtain rfl : k = n := by omega
      have HR : Hid _ := And.intro hl (And.intro hm (And.intro hown (And.intro hin (And.intro hb (And.intro hz hh)))))
      clear hl hm hown hin hb hz hh
      go_wp2
      go_ret
      obtain ⟨r1, r2, r3, r4, r5, r6, r7⟩ := HR.out
      exact ⟨rfl, ⟨zs, r1, fun j hj f hf => by have t := r2 j hj f hf; rw [if_pos hj] at t; exact t, r3⟩, fun j hj => (r4 j hj).1 hj, r5, r6, r7⟩
theorem markRecvObsS (q : Int) (base Bh : Nat) (v : Value) (L : List SRecvObs) (w : World) (hn : L.length ≤ 1048576) (hS : sumB 4 SRecvObs.d L L.length ≤ 1099511627776) (hq0 : 0 ≤ q) (hq1 : q ≤ 1099511627776) (h : BOwns 55 5 SRecvObs.c SRecvObs.d w base v L) (hB : BLo 55 5 SRecvObs.c SRecvObs.d w base v L Bh) :
    Calls Tryd.prog 12 #[v, .int .i64 q] w fun e w' => e = .returned (.int .i64 (q + (sumB 4 SRecvObs.d L L.length : Int))) ∧ BOwns 55 5 SRecvObs.c SRecvObs.d w' base v (marksRecvObs q L) ∧ Below base w w' ∧ w'.heap.size = w.heap.size ∧ (∀ k, Bh ≤ k → k < w.heap.size → w'.heap[k]? = w.heap[k]?) := by
  obtain ⟨U, ⟨zs, ho, hz⟩, hi, hap, hgB, hUB⟩ := hB
  rw [zl_length] at ho hz
  have hl : zs.length = L.length * 5 := ho.1
  have hz' : ∀ j, j < L.length → ∀ f, f < 5 → zs[j * 5 + f]? = ((L.getD j default).c (U j))[f]? := fun j hj f hf => by rw [← zl_at SRecvObs.c L U j hj]; exact hz j hj f hf
  rcases ho.2 with ⟨rfl, h0⟩ | ⟨g, cap, cur, rfl, hg, hh, r⟩
  · have hR : L = [] := List.eq_nil_of_length_eq_zero h0
    subst hR
    refine (markRecvObsS_nil q _ _ w).mono ?_
    rintro e w' ⟨rfl, rfl⟩
    exact ⟨by simp [sumB], h, Below.refl _ _, rfl, fun _ _ _ => rfl⟩
  · refine (markRecvObsS_core q L U L.length base g cap Bh zs w rfl hn hS hq0 hq1 hg (hgB g rfl) hUB ho hl hz' hi hap).mono ?_
    rintro e w' ⟨rfl, ⟨ys, hy0, hy, ho2⟩, hi2, hb, hz2, hon⟩
    refine ⟨rfl, ⟨U, ⟨ys, by rw [zl_length, marksRecvObs_length]; exact ho2, fun j hj f hf => ?_⟩, fun j hj => ?_, fun i j hij hj => hap i j hij (by rw [marksRecvObs_length] at hj; exact hj)⟩, hb, hz2, hon⟩
    · rw [zl_length, marksRecvObs_length] at hj
      rw [zl_at _ _ _ _ (by rw [marksRecvObs_length]; exact hj), marksRecvObs_at _ _ _ hj]
      exact hy j hj f hf
    · rw [marksRecvObs_length] at hj
      rw [marksRecvObs_at _ _ _ hj]
      have t := hi2 j hj
      have e1 : ((L.getD j default).mq (q + (sumB 4 SRecvObs.d L j : Int))).d = marks (q + (sumB 4 SRecvObs.d L j : Int) + 3) (L.getD j default).d.length := rfl
      rw [e1, marks_length]
      exact t
theorem heldRecvObsS_nil (q : Int) (ao : Option Addr) (cp : Nat) (w : World) :
    Calls Tryd.prog 13 #[.slice ao 0 cp, .int .i64 q] w fun e w' => e = .returned (.int .i64 q) ∧ w' = w := by
  go_enter Tryd.func13, Tryd.ntmps13
  go_wp2
  refine wp_loop_rounds 1 ?_
  rw [rounds_succ]
  go_wp2
  go_ret
  exact ⟨rfl, rfl⟩
set_option maxRecDepth 20000 in
set_option maxHeartbeats 4000000 in
theorem heldRecvObsS_core (q : Int) (L : List SRecvObs) (U : Nat → Value) (n : Nat) (b off ca : Nat) (w : World) (en : n = L.length) (hn : n ≤ 1048576) (hS : sumB 4 SRecvObs.d L n ≤ 1099511627776) (hq0 : 0 ≤ q) (hq1 : q ≤ 1099511627776)
    (hc : ∀ j : Nat, j < n → ∀ f, f < 5 → w.cell? ⟨b, off + (j * 5 + f), none⟩ = (((L.getD j default).mq (q + (sumB 4 SRecvObs.d L j : Int))).c (U j))[f]?) (hr : ∀ j, j < n → Row w .u8 (U j) (marks (q + (sumB 4 SRecvObs.d L j : Int) + 3) (L.getD j default).d.length)) :
    Calls Tryd.prog 13 #[.slice (some ⟨b, off, none⟩) n ca, .int .i64 q] w fun e w' => e = .returned (.int .i64 (q + (sumB 4 SRecvObs.d L n : Int))) ∧ w' = w := by
  have HC : Hid _ := And.intro hc (And.intro hr (And.intro en hS))
  clear hc hr en hS
  go_enter Tryd.func13, Tryd.ntmps13
  go_wp2
  go_loopg [1, 5] n (fun z s i wr => ∃ k : Nat, k ≤ n ∧ z = n - k ∧ i = .int .i64 k ∧ s = .int .i64 (q + (sumB 4 SRecvObs.d L k : Int)) ∧ wr = w)
  case atStart => exact ⟨0, Nat.zero_le _, by omega, rfl, by simp [sumB], rfl⟩
  case round =>
    obtain ⟨k, hk, hzz, rfl, rfl, ewr⟩ := hrel
    subst wr
    by_cases hlt : k < n
    · have hsk := sumB_mono 4 SRecvObs.d L (show k + 1 ≤ n by omega)
      have hs1 : sumB 4 SRecvObs.d L (k + 1) = sumB 4 SRecvObs.d L k + (4 + (L.getD k default).d.length) := rfl
      have hS := HC.out.2.2.2
      obtain ⟨uk, euk⟩ : ∃ u, u = U k := ⟨_, rfl⟩
      obtain ⟨s, es⟩ : ∃ s, s = q + (sumB 4 SRecvObs.d L k : Int) := ⟨_, rfl⟩
      obtain ⟨ln, eln⟩ : ∃ ln, ln = (L.getD k default).d.length := ⟨_, rfl⟩
      have hs0 : 0 ≤ s ∧ s + 3 + (ln : Int) ≤ 4398046511104 := by omega
      obtain ⟨s2, es2⟩ : ∃ s2, s2 = s + 3 + (ln : Int) := ⟨_, rfl⟩
      have hs2 : 0 ≤ s2 ∧ s2 ≤ 4398046511104 := by omega
      have hn2 : ¬ (s2 < 0) := by omega
      have hck := HC.out.1 k hlt
      have hrk := HC.out.2.1 k hlt
      rw [← euk, ← es] at hck hrk
      rw [← eln] at hrk
      rw [← es]
      obtain ⟨tb4, etb4⟩ : ∃ tb : Bool, tb = ((s2) % 3 == 0) := ⟨_, rfl⟩
      have htb4 : ((s2).tmod 3 == 0) = tb4 := by rw [etb4, Int.tmod_eq_emod_of_nonneg (by omega)]
      have htc4 : ((s2) % 3 == 0) = tb4 := by rw [etb4]
      have HT4 : Hid _ := And.intro etb4 True.intro
      clear etb4
      have w0 : IntKind.i64.wrap (s + 1) = s + 1 := by rw [IntKind.wrap_i64]; omega
      have w1 : IntKind.i64.wrap (s + 1 + 1) = s + 1 + 1 := by rw [IntKind.wrap_i64]; omega
      have w2 : IntKind.i64.wrap (s + 1 + 1 + 1) = s + 1 + 1 + 1 := by rw [IntKind.wrap_i64]; omega
      have w4 : IntKind.i64.wrap (s2 + 1) = s2 + 1 := by rw [IntKind.wrap_i64]; omega
      have c0 : w.cell? ⟨b, off + k * 5, none⟩ = some (.int .i64 (s)) := by have t := hck 0 (by omega); rw [show (off + (k * 5 + 0)) = off + k * 5 by omega] at t; rw [t]; first | rfl | exact congrArg some (congrArg (Value.int .i64) (show s + 0 = s by omega))
      have h0 : (s != s) = false := by simp
      have c1 : w.cell? ⟨b, off + k * 5 + 1, none⟩ = some (.int .i64 (s + 1)) := by have t := hck 1 (by omega); rw [show (off + (k * 5 + 1)) = off + k * 5 + 1 by omega] at t; rw [t]; first | rfl | exact congrArg some (congrArg (Value.int .i64) (show s + 1 = s + 1 by omega))
      have h1 : (s + 1 != s + 1) = false := by simp
      have c2 : w.cell? ⟨b, off + k * 5 + 2, none⟩ = some (.int .i64 (s + 1 + 1)) := by have t := hck 2 (by omega); rw [show (off + (k * 5 + 2)) = off + k * 5 + 2 by omega] at t; rw [t]; first | rfl | exact congrArg some (congrArg (Value.int .i64) (show s + 2 = s + 1 + 1 by omega))
      have h2 : (s + 1 + 1 != s + 1 + 1) = false := by simp
      have c3 : w.cell? ⟨b, off + k * 5 + 3, none⟩ = some uk := by have t := hck 3 (by omega); rw [show (off + (k * 5 + 3)) = off + k * 5 + 3 by omega] at t; rw [t]; rfl
      have c4 : w.cell? ⟨b, off + k * 5 + 4, none⟩ = some (.bool tb4) := by have t := hck 4 (by omega); rw [show (off + (k * 5 + 4)) = off + k * 5 + 4 by omega] at t; rw [t, HT4.out.1, es2, eln]; exact congrArg some (congrArg Value.bool (congrArg (fun z : Int => z % 3 == 0) (show s + 3 + ((L.getD k default).d.length : Int) = s + 3 + ((L.getD k default).d.length : Int) by omega)))
      have h4 : (tb4 != tb4) = false := by simp
      have C := heldBytes (s + 1 + 1 + 1) ln uk w (by first | exact hrk | (rw [show s + 1 + 1 + 1 = s + 3 by omega]; exact hrk)) (by omega) (by omega) (by omega)
      rw [show (s + 1 + 1 + 1) + (ln : Int) = s2 by rw [es2]; omega] at C
      have ES : Hid _ := And.intro C (And.intro es (And.intro es2 (And.intro eln hs1)))
      clear C es es2 eln hs1 hsk hS hck hrk euk
      go_wp2_with (go_at_call 35; refine ES.out.1.mono ?_; rintro e w' ⟨rfl, hw⟩; subst w')
      go_roundg (n - (k + 1))
      case measure => omega
      case rel =>
        obtain ⟨_, es, es2, eln, hs1⟩ := ES.out
        exact ⟨k + 1, by omega, rfl, by go_num, by rw [hs1, ← eln]; congr 1; omega, by trivial⟩
    · obtain rfl : k = n := by omega
      go_wp2
      go_ret
      exact ⟨rfl, by trivial⟩
theorem heldRecvObsS (q : Int) (L : List SRecvObs) (v : Value) (w : World) (h : BRow 5 SRecvObs.c SRecvObs.d w v (marksRecvObs q L)) (hn : L.length ≤ 1048576) (hS : sumB 4 SRecvObs.d L L.length ≤ 1099511627776) (hq0 : 0 ≤ q) (hq1 : q ≤ 1099511627776) :
    Calls Tryd.prog 13 #[v, .int .i64 q] w fun e w' => e = .returned (.int .i64 (q + (sumB 4 SRecvObs.d L L.length : Int))) ∧ w' = w := by
  by_cases h0 : 0 < L.length
  · obtain ⟨b, off, ca, rfl, _, U, hc, hr⟩ := h.at' (by rw [marksRecvObs_length]; exact h0)
    rw [marksRecvObs_length] at hc hr ⊢
    exact heldRecvObsS_core q L U L.length b off ca w rfl hn hS hq0 hq1 (fun j hj f hf => by rw [← marksRecvObs_at q L j hj]; exact hc j hj f hf) (fun j hj => by have t := hr j hj; rw [marksRecvObs_at q L j hj] at t; exact t)
  · obtain rfl : L = [] := List.eq_nil_of_length_eq_zero (by omega)
    obtain ⟨ao, cp, rfl⟩ := h.form
    have := heldRecvObsS_nil q ao cp w
    simpa [marksRecvObs, sumB] using this
end Go.Proofs.YtajachmhppoodaaDoor

namespace Go.Proofs.YtajachmhppoodaaDoor
open Go.RowKit
set_option linter.unusedVariables false

theorem sumB_one {α : Type} [Inhabited α] (m : Nat) (d : α → List Int) (L : List α) (j n : Nat) (h : j < n) : (d (L.getD j default)).length ≤ sumB m d L n := by
  have := sumB_mono m d L (show j + 1 ≤ n by omega)
  simp only [sumB] at this
  omega
theorem sumB_all {α : Type} [Inhabited α] (m : Nat) (d : α → List Int) (L : List α) (n : Nat) : sumB m d L n = m * n + sumB 0 d L n := by
  induction n with
  | zero => simp [sumB]
  | succ n ih => simp only [sumB, ih, Nat.mul_succ]; omega
set_option maxRecDepth 20000 in
set_option maxHeartbeats 4000000 in
theorem fnExactRecvRun_of (n : Int) (v : Value) (R : List SRecvOp) (sm : R.length ≤ 9223372036854775807) (sd : ∀ j, j < R.length → (R.getD j default).d.length ≤ 9223372036854775807) (w : World) (row : BRow 5 SRecvOp.c SRecvOp.d w v R)
    (both : (R.length : Int) + (sumB 0 SRecvOp.d R R.length : Int) ≤ 1048576 → ∃ (Y : List SRecvObs) (c : Int), (Y.length ≤ 1048576 ∧ sumB 4 SRecvObs.d Y Y.length ≤ 1099511627776) ∧ (∀ v w', Below w.heap.size w w' → BRow 5 SRecvOp.c SRecvOp.d w' v R → Calls Tryd.prog 6 #[.int .i64 n, v] w' fun e w'' => ∃ r, e = .returned (.tuple #[r, .int .i64 c]) ∧ BOwns 55 5 SRecvObs.c SRecvObs.d w'' w'.heap.size r Y ∧ Below w'.heap.size w' w'') ∧ (∀ v w', Below w.heap.size w w' → BRow 5 SRecvOp.c SRecvOp.d w' v R → Calls Tryd.prog 8 #[.int .i64 n, v] w' fun e w'' => ∃ r, e = .returned (.tuple #[r, .int .i64 c]) ∧ BOwns 55 5 SRecvObs.c SRecvObs.d w'' w'.heap.size r Y ∧ Below w'.heap.size w' w'')) :
    Calls Tryd.prog 3 #[.int .i64 n, v] w fun e w' => e = .returned (.bool true) ∧ Below w.heap.size w w' := by
  have C := szRecvOpS v R 1048576 w row (by decide) (by decide) sm sd
  by_cases hf : (R.length : Int) + (sumB 0 SRecvOp.d R R.length : Int) ≤ 1048576
  case neg =>
    obtain ⟨ao, cp, rfl⟩ := row.form
    have HC : Hid _ := And.intro C hf
    clear C row sm both hf sd
    go_enter Tryd.func3, Tryd.ntmps3
    go_wp2_with fail
    go_at_call 5
    refine HC.out.1.mono ?_
    rintro e w1 ⟨h1 | ⟨_, rfl⟩, b1⟩
    · exact absurd h1.1 (by have := HC.out.2; omega)
    have B1 : Hid _ := And.intro b1 True.intro
    clear b1
    go_wp2
    go_ret
    exact ⟨rfl, B1.out.1⟩
  case pos =>
    obtain ⟨Y, c, hY, hS, hI⟩ := both hf
    obtain ⟨ao, cp, ev⟩ := row.form
    have hf1 : R.length ≤ 1048576 := by omega
    have hf2 : sumB 4 SRecvOp.d R R.length ≤ 1099511627776 := by rw [sumB_all]; omega
    obtain ⟨lt, el⟩ : ∃ lt : Int, lt = 1048576 - (R.length : Int) - (sumB 0 SRecvOp.d R R.length : Int) := ⟨_, rfl⟩
    rw [← el] at C
    have hl : ¬ (lt < 0) := by omega
    have hcc : (c != c) = false := by simp
    have HH : Hid _ := And.intro row (And.intro hf (And.intro hS (And.intro hI (And.intro C hY))))
    have RD : Hid _ := And.intro (fun j hj => Nat.le_trans (sumB_one 0 SRecvOp.d R j R.length hj) (by omega) : ∀ j, j < R.length → (R.getD j default).d.length ≤ 140737488355328) (And.intro hf1 hf2)
    have YD : Hid _ := And.intro (fun j hj => Nat.le_trans (sumB_one 4 SRecvObs.d Y j Y.length hj) (Nat.le_trans hY.2 (by decide)) : ∀ j, j < Y.length → (Y.getD j default).d.length ≤ 140737488355328) True.intro
    obtain ⟨K, eK⟩ : ∃ K : Int, K = 1 + (sumB 4 SRecvOp.d R R.length : Int) := ⟨_, rfl⟩
    obtain ⟨M, eM⟩ : ∃ M : Int, M = 1 + (sumB 4 SRecvObs.d Y Y.length : Int) := ⟨_, rfl⟩
    have hK : ¬ (K < 0) := by omega
    have hM : ¬ (M < 0) := by omega
    have hMM : (M != M) = false := by simp
    have EK : Hid _ := And.intro eK eM
    subst ev
    clear row sm both hf hS hI C el hY eK eM sd hf1 hf2
    go_enter Tryd.func3, Tryd.ntmps3
    go_wp2_with fail
    go_at_call 5
    refine HH.out.2.2.2.2.1.mono ?_
    rintro e w0 ⟨⟨_, rfl⟩ | h1, b0⟩
    rotate_left
    · exact absurd HH.out.2.1 (by have := h1.1; omega)
    have B0 : Hid _ := And.intro b0 True.intro
    clear b0
    go_wp2_with fail
    go_at_call 7
    refine (toRecvOpS _ R w0 (HH.out.1.below B0.out.1) RD.out.2.1 RD.out.1).mono ?_
    rintro e w1 ⟨r1, rfl, o1, b1⟩
    have B1 : Hid _ := And.intro (B0.out.1.trans (b1.mono B0.out.1.size)) o1.row
    clear b1 o1
    go_wp2_with fail
    go_at_call 6
    refine (HH.out.2.2.1 _ _ B1.out.1 B1.out.2).mono ?_
    rintro e w2 ⟨rS, rfl, oS, b2⟩
    have B2 : Hid _ := And.intro (B1.out.1.trans (b2.mono B1.out.1.size)) oS.row
    clear b2 oS
    go_wp2_with fail
    go_at_call 7
    refine (toRecvOpS _ R w2 (HH.out.1.below B2.out.1) RD.out.2.1 RD.out.1).mono ?_
    rintro e w3 ⟨x0, rfl, oX, b3⟩
    have B3 : Hid _ := And.intro (B2.out.1.trans (b3.mono B2.out.1.size)) (And.intro oX.lo b3)
    clear b3 oX
    go_wp2_with fail
    go_at_call 8
    refine (HH.out.2.2.2.1 _ _ B3.out.1 B3.out.2.1.owns.row).mono ?_
    rintro e w4 ⟨g0, rfl, oG, b4⟩
    have B4 : Hid _ := And.intro (B3.out.2.2.trans (b4.mono B3.out.2.2.size)) (And.intro oG b4)
    clear b4 oG
    go_wp2_with fail
    go_at_call 9
    refine (eqRecvObsS _ _ Y w4 (B4.out.2.1.row) (B2.out.2.below B4.out.1) HH.out.2.2.2.2.2.1 YD.out.1).mono ?_
    rintro e w5 ⟨rfl, b5⟩
    have B5 : Hid _ := And.intro (B4.out.1.trans (b5.mono B4.out.1.size)) (And.intro (B4.out.2.1.below b5) (B4.out.2.2.trans (b5.mono B4.out.2.2.size)))
    clear b5
    go_wp2_with fail
    go_at_call 7
    refine (toRecvOpS _ R w5 (HH.out.1.below (B2.out.1.trans (B5.out.1.mono B2.out.1.size))) RD.out.2.1 RD.out.1).mono ?_
    rintro e w6 ⟨r6, rfl, o6, b6⟩
    have B6 : Hid _ := And.intro (B5.out.1.trans (b6.mono B5.out.1.size)) (And.intro (B5.out.2.1.below b6) (And.intro (B3.out.2.1.below (B5.out.2.2.trans (b6.mono B5.out.2.2.size))) o6.row))
    clear b6 o6
    go_wp2_with fail
    go_at_call 10
    refine (eqRecvOpS _ _ R w6 B6.out.2.2.1.owns.row B6.out.2.2.2 RD.out.2.1 RD.out.1).mono ?_
    rintro e w7 ⟨rfl, b7⟩
    have B7 : Hid _ := And.intro (B6.out.1.trans (b7.mono B6.out.1.size)) (And.intro (B6.out.2.1.below b7) (B6.out.2.2.1.below b7))
    clear b7
    go_wp2_with fail
    go_at_call 11
    refine (markRecvOpS 1 w2.heap.size w3.heap.size _ R w7 RD.out.2.1 RD.out.2.2 (by decide) (by decide) B7.out.2.2.owns B7.out.2.2).mono ?_
    rintro e w8 ⟨rfl, oX8, b8, z8, n8⟩
    have B8 : Hid _ := And.intro (B7.out.1.trans b8) (BOwns.high n8 (B7.out.2.1) (Nat.le_refl _))
    clear b8 oX8 z8 n8
    rw [← EK.out.1]
    go_wp2_with fail
    go_at_call 9
    refine (eqRecvObsS _ _ Y w8 (B8.out.2.row) (B2.out.2.below B8.out.1) HH.out.2.2.2.2.2.1 YD.out.1).mono ?_
    rintro e w9 ⟨rfl, b9⟩
    have B9 : Hid _ := And.intro (B8.out.1.trans (b9.mono B8.out.1.size)) (B8.out.2.below b9)
    clear b9
    go_wp2_with fail
    go_at_call 12
    refine (markRecvObsS 1 w3.heap.size w9.heap.size _ Y w9 HH.out.2.2.2.2.2.1 HH.out.2.2.2.2.2.2 (by decide) (by decide) B9.out.2 B9.out.2.lo).mono ?_
    rintro e w10 ⟨rfl, oG10, b10, z10, n10⟩
    have B10 : Hid _ := And.intro (B9.out.1.trans (b10.mono B3.out.2.2.size)) oG10
    clear b10 z10 n10 oG10
    rw [← EK.out.2]
    go_wp2_with fail
    go_at_call 13
    refine (heldRecvObsS 1 Y _ w10 (B10.out.2.row) HH.out.2.2.2.2.2.1 HH.out.2.2.2.2.2.2 (by decide) (by decide)).mono ?_
    rintro e w11 ⟨rfl, hw⟩
    subst w11
    rw [← EK.out.2]
    go_wp2_with fail
    go_at_call 7
    refine (toRecvOpS _ R w10 (HH.out.1.below (B2.out.1.trans (B10.out.1.mono B2.out.1.size))) RD.out.2.1 RD.out.1).mono ?_
    rintro e w12 ⟨r12, rfl, o12, b12⟩
    have B12 : Hid _ := And.intro (B10.out.1.trans (b12.mono B10.out.1.size)) (And.intro (B10.out.2.below b12) o12.row)
    clear b12 o12
    go_wp2_with fail
    go_at_call 8
    refine (HH.out.2.2.2.1 _ _ (B2.out.1.trans (B12.out.1.mono B2.out.1.size)) B12.out.2.2).mono ?_
    rintro e w13 ⟨h0, rfl, oH, b13⟩
    have B13 : Hid _ := And.intro (B12.out.1.trans (b13.mono B12.out.1.size)) (And.intro (B12.out.2.1.below b13) oH.row)
    clear b13 oH
    go_wp2_with fail
    go_at_call 9
    refine (eqRecvObsS _ _ Y w13 (B13.out.2.2) (B2.out.2.below B13.out.1) HH.out.2.2.2.2.2.1 YD.out.1).mono ?_
    rintro e w14 ⟨rfl, b14⟩
    have B14 : Hid _ := And.intro (B13.out.1.trans (b14.mono B13.out.1.size)) (B13.out.2.1.below b14)
    clear b14
    go_wp2_with fail
    go_at_call 13
    refine (heldRecvObsS 1 Y _ w14 (B14.out.2.row) HH.out.2.2.2.2.2.1 HH.out.2.2.2.2.2.2 (by decide) (by decide)).mono ?_
    rintro e w15 ⟨rfl, hw⟩
    subst w15
    rw [← EK.out.2]
    go_wp2
    go_ret
    exact ⟨rfl, B2.out.1.trans (B14.out.1.mono B2.out.1.size)⟩
end Go.Proofs.YtajachmhppoodaaDoor

namespace Go.Proofs.YtajachmhppoodaaDoor
open Go.RowKit
set_option linter.unusedVariables false

set_option maxRecDepth 20000 in
set_option maxHeartbeats 1000000 in
theorem specRR (win : Int) (v : Value) (R : List SRecvOp) (w : World) (row : BRow 5 SRecvOp.c SRecvOp.d w v R) (hl : R.length ≤ 140737488355328)
    (hd : ∀ j, j < R.length → (R.getD j default).d.length ≤ 140737488355328) (hof : ∀ j, j < R.length → (R.getD j default).f1 ≤ 9223372036854775807) :
    Calls Tryd.prog 6 #[.int .i64 win, v] w fun e w' => ∃ r, e = .returned (.tuple #[r, .int .i64 (rrC win R)]) ∧ BOwns 55 5 SRecvObs.c SRecvObs.d w' w.heap.size r (rrY win R) ∧ Below w.heap.size w w' := by
  obtain ⟨ao, cp, ev⟩ := row.form
  by_cases a1 : 400 < R.length
  · have e1 : rrC win R = 4 := by unfold rrC; rw [if_pos a1]
    have e2 : rrY win R = [] := by unfold rrY; rw [if_pos (Or.inl a1)]
    rw [e1, e2, ev]
    have a1' : (400 : Int) < (R.length : Int) := by omega
    generalize R.length = n at *
    clear row hd hof
    go_enter Tryd.func6, Tryd.ntmps6
    go_wp2
    go_ret2
    exact ⟨_, rfl, BOwns.lit0B _ _ (by decide) _ _ w _ (Nat.le_refl _), (Below.refl _ _).alloc (Nat.le_refl _) _⟩
  by_cases a2 : win < 1
  · have e1 : rrC win R = 1 := by unfold rrC; rw [if_neg a1, if_pos (Or.inl a2)]
    have e2 : rrY win R = [] := by unfold rrY; rw [if_pos (Or.inr (Or.inl a2))]
    rw [e1, e2, ev]
    have a1' : ¬ (400 : Int) < (R.length : Int) := by omega
    generalize R.length = n at *
    clear row hd hof
    go_enter Tryd.func6, Tryd.ntmps6
    go_wp2
    go_ret2
    exact ⟨_, rfl, BOwns.lit0B _ _ (by decide) _ _ w _ (Nat.le_refl _), (Below.refl _ _).alloc (Nat.le_refl _) _⟩
  by_cases a3 : 16384 < win
  · have e1 : rrC win R = 1 := by unfold rrC; rw [if_neg a1, if_pos (Or.inr a3)]
    have e2 : rrY win R = [] := by unfold rrY; rw [if_pos (Or.inr (Or.inr a3))]
    rw [e1, e2, ev]
    have a1' : ¬ (400 : Int) < (R.length : Int) := by omega
    generalize R.length = n at *
    clear row hd hof
    go_enter Tryd.func6, Tryd.ntmps6
    go_wp2
    go_ret2
    exact ⟨_, rfl, BOwns.lit0B _ _ (by decide) _ _ w _ (Nat.le_refl _), (Below.refl _ _).alloc (Nat.le_refl _) _⟩
  obtain ⟨k, rfl⟩ : ∃ k : Nat, win = (k : Int) := ⟨win.toNat, by omega⟩
  have e1 : rrC (k : Int) R = 0 := by unfold rrC; rw [if_neg a1, if_neg (by omega)]
  have e2 : rrY (k : Int) R = (mrun k R R.length).2 := by unfold rrY; rw [if_neg (by omega)]; rfl
  rw [e1, e2]
  exact specLoop k (by omega) (by omega) v R w row (by omega) hd hof
/-- The bytes of an answer are not too many. -/
theorem mstep_len (win : Nat) (m : MS) (o : SRecvOp) (h : m.T.length ≤ 1000000) : (mstep win m o).2.d.length ≤ 1000000 := by
  show (mstep win m o).2.f3.length ≤ 1000000
  unfold mstep
  split
  · exact Nat.zero_le _
  split
  · exact Nat.zero_le _
  split
  · show (mread win m o.f2).2.1.length ≤ _
    unfold mread
    split
    · exact Nat.zero_le _
    split
    · exact Nat.zero_le _
    · show (((m.T.drop m.read).take _).map _).length ≤ _
      simp only [List.length_map, List.length_take, List.length_drop]; omega
  · exact Nat.zero_le _
theorem mrun_sum (win : Nat) (hw : 1 ≤ win) (hw2 : win ≤ 16384) (R : List SRecvOp) (n : Nat) (hn : n ≤ 400) : ∀ k, k ≤ n → sumB 4 SRecvObs.d (mrun win R n).2 k ≤ 1000004 * k
  | 0, _ => Nat.zero_le _
  | k + 1, hk => by
    have h1 := mrun_sum win hw hw2 R n hn k (by omega)
    have I := mrun_inv hw hw2 R k (by omega)
    have hrd := I.read
    have hcn := I.cnt
    have htd := I.told
    have htt := I.toldT
    have h2 := mstep_len win (mrun win R k).1 (R.getD k default) (by omega)
    have e := mrun_at win R k n (by omega)
    simp only [sumB]
    rw [e]
    omega
theorem rrY_bound (win : Int) (R : List SRecvOp) : (rrY win R).length ≤ 1048576 ∧ sumB 4 SRecvObs.d (rrY win R) (rrY win R).length ≤ 1099511627776 := by
  unfold rrY
  split
  · exact ⟨by simp, by simp [sumB]⟩
  · rename_i h
    rw [mrun_length]
    have := mrun_sum win.toNat (by omega) (by omega) R R.length (by omega) R.length (Nat.le_refl _)
    omega
theorem cell_ltF {w : World} {b o : Nat} {u : Value} (h : w.cell? ⟨b, o, none⟩ = some u) : b < w.heap.size := by
  refine Nat.lt_of_not_le (fun hn => ?_)
  have e : w.heap[b]? = none := Array.getElem?_eq_none (by omega)
  simp [World.cell?, e] at h
theorem fnExactRecvRun_walk (n : Int) (v : Value) (R : List SRecvOp) (_ : (Lit.int .i64 n).wf = true) (sm : R.length ≤ maxLen) (sd : ∀ j, j < R.length → (R.getD j default).d.length ≤ maxLen) (so : ∀ j, j < R.length → (R.getD j default).f1 ≤ 9223372036854775807) (w : World) (row : BRow 5 SRecvOp.c SRecvOp.d w v R) (ht : TabF w) :
    Calls Tryd.prog 3 #[.int .i64 n, v] w fun e w' => e = .returned (.bool true) ∧ Below w.heap.size w w' := by
  have h0 : 0 < w.heap.size := cell_ltF ht.c0
  refine fnExactRecvRun_of n v R (Nat.le_trans sm (by decide)) (fun j hj => Nat.le_trans (sd j hj) (by decide)) w row (fun hf => ?_)
  have sm' : R.length ≤ 140737488355328 := by omega
  have sd' : ∀ j, j < R.length → (R.getD j default).d.length ≤ 140737488355328 := fun j hj => Nat.le_trans (sumB_one 0 SRecvOp.d R j R.length hj) (by omega)
  exact ⟨rrY n R, rrC n R, rrY_bound n R, fun v w' _ r => specRR n v R w' r sm' sd' so, fun v w' hb r => implRR n v R w' (ht.below hb h0) (Nat.lt_of_lt_of_le h0 hb.size) r sm' sd' so⟩
end Go.Proofs.YtajachmhppoodaaDoor

namespace Go.Proofs.YtajachmhppoodaaDoor.fnExactRecvRun
open Go.ChangeShapes Go.WideShapes Go.ChangeAt Go.RowKit
set_option linter.unusedVariables false

theorem own : ownKnob Tryd.prog.godebug = none := by kernel_rfl
theorem laidOut : laidOutB Tryd.prog = true := by kernel_rfl
theorem cells_b : Tryd.prog.cellsOf 5 = 1 := by kernel_rfl
theorem gTab : Tryd.prog.globalNamed "loop.example/g00012/impl.streamFollows" = some 0 := by kernel_rfl
theorem gTabType : (Tryd.prog.globals[0]?).map (·.type) = some 124 := by kernel_rfl
theorem table {W : World} (h : laidMetH Tryd.prog Rows.fnExactRecvRunRow.laid W) : TabF W :=
  tabF_of_laid gTab gTabType Tryd.underlying124 Tryd.underlying123 Tryd.underlying5 (by kernel_rfl) (by kernel_rfl) (by kernel_rfl) h

set_option maxRecDepth 20000 in
theorem contract (H : Type) (enc : TypeId × Value → H) (W : World) (base : Nat) (args : Array Value) (ds gs : List (DataW H)) (before : List MemPlace)
    (hval : ∀ (j : Nat) t v, Tryd.f3.params[j]? = some t → args[j]? = some v → Value.okWide Tryd.prog W .any base t v)
    (hW : DataW.Whole enc Tryd.prog Tryd.f3.params.toList Rows.fnExactRecvRunSpec.vars false W args.toList ds gs before) (hL : laidMetH Tryd.prog Rows.fnExactRecvRunRow.laid W) :
    Calls Tryd.prog 3 args W fun e W' => ∃ v, e = .returned v ∧ Rows.fnExactRecvRunSpec.post enc Tryd.prog Tryd.f3 false true false false W args v W' := by
  have hW' := hW
  obtain ⟨p, q, hA0, hV, rfl, hfz, hnd⟩ := hW
  have hA : DataW.TrodAll enc Tryd.prog W 0 (fun _ => true) true Tryd.f3.params.toList args.toList ds p := hA0
  rw [Tryd.params3] at hA hval
  obtain ⟨v0, vs0, d0, ds0, p0, q0, hargs, rfl, rfl, h0, r0⟩ := trodAll_cons hA
  obtain ⟨v1, vs1, d1, ds1, p1, q1, rfl, rfl, rfl, h1, r1⟩ := trodAll_cons r0
  obtain ⟨rfl, rfl, rfl⟩ := trodAll_nil r1
  obtain rfl : args = #[v0, v1] := by cases args; simp_all
  obtain ⟨g, t, cs, fuel, dg, pg, rfl, -⟩ := trodVars_one hV
  obtain ⟨a0, rfl, rfl, rfl, w0⟩ := open_int Tryd.underlying3 (hval 0 3 v0 rfl rfl) h0
  obtain ⟨k1, row1, sm1, sd1, so1⟩ := open_opsV Tryd.underlying22 Tryd.underlying49 (by kernel_rfl) (by kernel_rfl) ⟨rfl, rfl, rfl, rfl, rfl⟩ Tryd.underlying3 Tryd.underlying4 Tryd.underlying47 Tryd.underlying5 cells_b (hval 1 22 v1 rfl rfl) h1
  refine (fnExactRecvRun_walk a0 v1 k1 w0 sm1 sd1 so1 W row1 (table hL)).mono fun e W' ⟨he, hb⟩ => ?_
  subst he
  exact ⟨_, rfl, law_post laidOut (by kernel_rfl) (by kernel_rfl) (by kernel_rfl) Tryd.underlying4 hW' rfl hb⟩

theorem laid_met (os : Os) : laidMet Tryd.prog Rows.fnExactRecvRunRow.laid (({ World.holding Tryd.prog os ⟨#[], #[], []⟩ with heap := (World.holding Tryd.prog os ⟨#[], #[], []⟩).heap.modify 0 fun | .cells _ t frozen => .cells #[.int .u8 18, .int .u8 20, .int .u8 8, .int .u8 0, .int .u8 32, .int .u8 0, .int .u8 22, .int .u8 20, .int .u8 24, .int .u8 0, .int .u8 32, .int .u8 0] t frozen | o => o } : World).forCall (fun _ _ => 0) ⟨#[], #[.int .i64 0, .slice none 0 0], []⟩).memory :=
  laidMet_of_run' 8 (by kernel_rfl) (by kernel_rfl)
theorem reads (os : Os) {H : Type} (enc : TypeId × Value → H) : ∃ places, DataW.whole enc Tryd.prog (({ World.holding Tryd.prog os ⟨#[], #[], []⟩ with heap := (World.holding Tryd.prog os ⟨#[], #[], []⟩).heap.modify 0 fun | .cells _ t frozen => .cells #[.int .u8 18, .int .u8 20, .int .u8 8, .int .u8 0, .int .u8 32, .int .u8 0, .int .u8 22, .int .u8 20, .int .u8 24, .int .u8 0, .int .u8 32, .int .u8 0] t frozen | o => o } : World).forCall (fun _ _ => 0) ⟨#[], #[.int .i64 0, .slice none 0 0], []⟩).memory Tryd.f3.params.toList Rows.fnExactRecvRunSpec.vars false #[(.int .i64 0 : Value), .slice none 0 0].toList 8 = some ([.lit (.int .i64 0), .nil], [.agg [.agg [.lit (.int .u8 18), .lit (.int .u8 20), .lit (.int .u8 8), .lit (.int .u8 0), .lit (.int .u8 32), .lit (.int .u8 0)], .agg [.lit (.int .u8 22), .lit (.int .u8 20), .lit (.int .u8 24), .lit (.int .u8 0), .lit (.int .u8 32), .lit (.int .u8 0)]]], places) :=
  ⟨[.cell 0 0, .cell 0 1, .cell 0 2, .cell 0 3, .cell 0 4, .cell 0 5, .cell 0 6, .cell 0 7, .cell 0 8, .cell 0 9, .cell 0 10, .cell 0 11], by kernel_rfl⟩

set_option maxRecDepth 100000 in
theorem lifted (os : Os) (started : os.Started) (H : Type) (enc : TypeId × Value → H) (F : Stop.Interp) :
    ReturnsInHanded {} Tryd.checked os 3 .any ((OpenSpec.ofChange Rows.fnExactRecvRunSpec).preRow enc Tryd.prog Tryd.f3 Rows.fnExactRecvRunRow.domain false Rows.fnExactRecvRunRow.laid) (((OpenSpec.ofChange Rows.fnExactRecvRunSpec).at F).post enc Tryd.prog Tryd.f3 false true false false) := by
  obtain ⟨places, hx⟩ := reads os enc
  refine returnsInHanded_of_row (C := Tryd.checked) (s := OpenSpec.ofChange Rows.fnExactRecvRunSpec) own started (by kernel_rfl) Tryd.func3
    (witness_row_at (enc := enc) (C := Tryd.checked) false ({ World.holding Tryd.prog os ⟨#[], #[], []⟩ with heap := (World.holding Tryd.prog os ⟨#[], #[], []⟩).heap.modify 0 fun | .cells _ t frozen => .cells #[.int .u8 18, .int .u8 20, .int .u8 8, .int .u8 0, .int .u8 32, .int .u8 0, .int .u8 22, .int .u8 20, .int .u8 24, .int .u8 0, .int .u8 32, .int .u8 0] t frozen | o => o } : World) #[.int .i64 0, .slice none 0 0] rfl (by kernel_rfl) (by kernel_rfl) (by kernel_rfl)
      (OpenSpec.preRow_of_cond 8 hx (by kernel_rfl) (fun k hk => by cases hk) (by kernel_rfl) (laid_met os))) ?_
  intro W base args ds gs before hval hW _ _ _ hL _ _
  exact contract H enc W base args ds gs before hval hW hL

theorem said : Rows.FnExactRecvRunSaid :=
  OpenClaim.holds_of_cond 3 Tryd.f3 rfl rfl rfl rfl rfl rfl rfl ⟨rfl, rfl, rfl, rfl, rfl⟩ rfl rfl rfl rfl rfl (by kernel_rfl) Tryd.func3 (by kernel_rfl)
    (of_decide_eq_true (by kernel_rfl)) (by unfold Func.isWrapper; first | (rw [if_pos (by decide +kernel)]; kernel_rfl) | (rw [if_neg (by decide +kernel)]; exact ⟨rfl, rfl⟩))
    (fun os started H enc _ F => by rw [OpenClaim.pre_eq_preRow]; exact lifted os started H enc F)

theorem plain (f : FuncId) (fn : Func) (hf : Tryd.pinned.checked.prog.funcNamed "loop.example/g00012/laws.FnExactRecvRun" = some f) (hfn : Tryd.pinned.checked.prog.funcs[f]? = some fn) :
    false = Tryd.pinned.checked.prog.looks [] ∧ ∀ (j : Nat) t, fn.params[j]? = some t → Tryd.pinned.checked.prog.wantsStandIn t = false := by
  obtain rfl : f = 3 := Option.some.inj ((show Tryd.prog.funcNamed "loop.example/g00012/laws.FnExactRecvRun" = some 3 by kernel_rfl).symm.trans hf) |>.symm
  obtain rfl : fn = Tryd.f3 := (Option.some.inj (Tryd.func3.symm.trans hfn)).symm
  refine ⟨by kernel_rfl, fun j t ht => ?_⟩
  rw [Tryd.params3] at ht
  have hm : t ∈ [3, 22] := by simpa using Array.mem_of_getElem? ht
  have hall : ([3, 22].all fun u => !Tryd.prog.wantsStandIn u) = true := by kernel_rfl
  exact (show Tryd.prog.wantsStandIn t = false by simpa using List.all_eq_true.1 hall t hm)

end Go.Proofs.YtajachmhppoodaaDoor.fnExactRecvRun

namespace Go.Proofs.YtajachmhppoodaaDoor
theorem fnExactRecvRun_holds : Rows.FnExactRecvRunCardSaid :=
  Claim7.holds_tied_plain_at .later [] _ _ _ _ fnExactRecvRun.said (fun _ h => by cases h) (by kernel_rfl) (fun _ h => by cases h) fnExactRecvRun_row_tie rfl ⟨rfl, rfl⟩ (by kernel_rfl) rfl fnExactRecvRun.plain (by kernel_rfl)
#print axioms fnExactRecvRun_holds
end Go.Proofs.YtajachmhppoodaaDoor
