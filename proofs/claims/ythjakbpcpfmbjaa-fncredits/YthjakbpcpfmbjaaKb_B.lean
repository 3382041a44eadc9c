import Derived.Test.YthjakbpcpfmbjaaKb_A
import Derived.Deep.Cut
import Derived.Deep.CutRange
namespace Go.Proofs.Ythjakbpcpfmbjaa
open Go.RowKit
set_option linter.unusedVariables false
set_option linter.unusedSimpArgs false

/-- Amid a reading of the model: the answer's block, the block of the answer's own, the frames so far. -/
structure OR (x base : Nat) (w W : World) (F : FS) (m' : FX) (lv fv : Value) (fr : List (Int × Int × Int)) : Prop where
  P : MR W x base F m' lv
  C : MCh base w W
  h1 : W.heap[w.heap.size]? = some (.cells #[.int .i64 0, .int .i64 0, .int .i64 0, .slice none 0 0] 35 (0, 0))
  h2 : W.heap[w.heap.size + 1]? = some (.cells #[.int .i64 0, .int .i64 0, .int .i64 0, fv] 35 (0, 0))
  f : GOwns 38 8 W w.heap.size fv (fr.map frC)
section
variable {x base : Nat} {w W : World} {F : FS} {m' : FX} {lv fv : Value} {fr : List (Int × Int × Int)}
theorem OR.drewN (h : OR x base w W F m' lv fv fr) (n : Nat) : OR x base w (W.drewN n) F m' lv fv fr := ⟨h.P.drewN n, h.C.drewN n, h.h1, h.h2, h.f.below (below_drewN (Below.refl _ _) n)⟩
theorem OR.drew (h : OR x base w W F m' lv fv fr) : OR x base w W.drew F m' lv fv fr := h.drewN 1
/-- A store into a block of the model's own. -/
theorem OR.keep (h : OR x base w W F m' lv fv fr) {k i : Nat} {u : Value} {c : Array Value} {T : TypeId} {fr' : Nat × Nat} (hk : W.heap[k]? = some (.cells c T fr')) (hT : T ≠ 35 ∧ T ≠ 38) {m2 : FX} (P : MR (W.setCell ⟨k, i, none⟩ u) x base F m2 lv) (C : MCh base w (W.setCell ⟨k, i, none⟩ u)) : OR x base w (W.setCell ⟨k, i, none⟩ u) F m2 lv fv fr :=
  ⟨P, C, (bk_other (bk_apart h.h1 hk (Ne.symm hT.1)) i u).trans h.h1, (bk_other (bk_apart h.h2 hk (Ne.symm hT.1)) i u).trans h.h2, own_setM h.f hk (Ne.symm hT.2)⟩
theorem OR.app (h : OR x base w W F m' lv fv fr) (f : Int × Int × Int) (v6 : Value) (w6 : World) (o6 : GOwns 38 8 w6 w.heap.size v6 (fr.map frC ++ [frC f])) (g6 : (W.alloc (.cells (frC f).toArray 38)).grownBy w6 fv.ownBlock) :
    OR x base w (w6.setCell ⟨w.heap.size + 1, 3, none⟩ v6) F m' lv v6 (fr ++ [f]) ∧ w6.frozen? ⟨w.heap.size + 1, 3, none⟩ = false ∧ w6.cell? ⟨w.heap.size + 1, 3, none⟩ = some fv := by
  have hB : Below W.heap.size W (W.alloc (.cells (frC f).toArray 38)) := (Below.refl _ _).alloc (Nat.le_refl _) _
  have keep : ∀ {k : Nat} {c : Array Value} {T : TypeId} {fr' : Nat × Nat}, W.heap[k]? = some (.cells c T fr') → T ≠ 38 → w6.heap[k]? = some (.cells c T fr') := fun {k c T fr'} hk hT => by
    have hlt := (Array.getElem?_eq_some_iff.1 hk).1
    refine (g6.block k (Nat.lt_of_lt_of_le hlt hB.size) (fun e => ?_)).trans ((hB.block k hlt).trans hk)
    obtain ⟨zs, ow, _⟩ := h.f
    rcases ow.2 with ⟨rfl, _⟩ | ⟨g', cap, cur, rfl, _, hh, _⟩
    · cases e
    · obtain rfl : k = g' := Option.some.inj e
      exact bk_apart hk hh hT rfl
  have k1 := keep h.h1 (by decide)
  have k2 := keep h.h2 (by decide)
  have P6 : MR w6 x base F m' lv := by
    refine ⟨keep h.P.bk (by decide), ?_, h.P.lo⟩
    obtain ⟨zs, ⟨hl, h2⟩, hz⟩ := h.P.ow
    refine ⟨zs, ⟨hl, ?_⟩, hz⟩
    rcases h2 with h2 | ⟨g', cap, cur, rfl, hg, hh, r⟩
    · exact Or.inl h2
    · exact Or.inr ⟨g', cap, cur, rfl, hg, keep hh (by decide), r⟩
  refine ⟨⟨P6.setO k2 3 v6, ((h.C.alloc _).grownN g6 (gown_lo h.f)).setN (by omega) 3 v6, (bk_other (by omega) 3 v6).trans k1, bk_set k2 3 v6, ?_⟩, bk_free k2 3, bk_cell k2 3⟩
  rw [List.map_append]
  exact own_setM o6 k2 (by decide)
end
theorem OM.drewN {x base q : Nat} {w W : World} {F : FS} {m : FX} {fv : Value} {fr : List (Int × Int × Int)} {r1 : Array Value} (h : OM q x base w W F m fv fr r1) (n : Nat) : OM q x base w (W.drewN n) F m fv fr r1 := by
  obtain ⟨lv, P⟩ := h.P
  exact ⟨⟨lv, P.drewN n⟩, h.C.drewN n, h.h1, h.f.below (below_drewN (Below.refl _ _) n)⟩
theorem lit_flatG (w : World) (cs : List Value) (T : TypeId) (g : Nat) (hg : w.heap.size = g) : GRow cs.length (w.alloc (.cells cs.toArray T)) (.slice (some ⟨g, 0, none⟩) 1 1) [cs] := by
  subst hg
  exact lit_flat w cs T
theorem OR.start {x base : Nat} {w W : World} {F : FS} {m' : FX} {lv : Value} (P : MR W x base F m' lv) (C : MCh base w W) (h1 : W.heap[w.heap.size]? = some (.cells #[.int .i64 0, .int .i64 0, .int .i64 0, .slice none 0 0] 35 (0, 0))) (hs : W.heap.size = w.heap.size + 1) : OR x base w (W.alloc obZ) F m' lv (.slice none 0 0) [] := by
  have hB : Below W.heap.size W (W.alloc obZ) := (Below.refl _ _).alloc (Nat.le_refl _) _
  refine ⟨P.below hB, C.alloc _, (hB.block _ (Array.getElem?_eq_some_iff.1 h1).1).trans h1, ?_, framesM _ _⟩
  rw [← hs]
  exact heap_alloc_new W obZ

set_option maxRecDepth 20000 in
set_option maxHeartbeats 4000000 in
theorem readDo (x base : Nat) (F : FS) (hF : fsOK F = true) (m : FX) (i : Nat) (id n : Int) (w : World) (h : MRep w x base F m) (hI : FXI F i m) (hi : i ≤ 400) (hbase : base ≤ w.heap.size) (c : canG F m.L id) (hx : ¬ n < 1) (hy : ¬ (sxAt m.L id).cm - (sxAt m.L id).rd < n) :
    Calls Try.prog 31 #[.pointer (some ⟨x, 0, none⟩), .int .i64 id, .int .i64 n] w fun e w' => ∃ fv, e = .returned (.agg #[.int .i64 (fread F m id n).2.code, .int .i64 (fread F m id n).2.id, .int .i64 (fread F m id n).2.cnt, fv]) ∧ GOwns 38 8 w' w.heap.size fv ((fread F m id n).2.fr.map frC) ∧ MDo w w' x base F (fread F m id n).1 := by
  obtain ⟨lv, P⟩ := h
  have hB : Below w.heap.size w (w.alloc obZ) := (Below.refl _ _).alloc (Nat.le_refl _) _
  have PB := P.below hB
  have hlen := hI.len_le hi
  have S := getsM x base F m lv i id (w.alloc obZ) PB hI hi
  rw [if_pos c] at S
  obtain ⟨E, ei⟩ := hI.at' c.1
  have hF2 := hF
  simp only [fsOK, decide_eq_true_eq] at hF2
  have hrd : 0 ≤ (sxAt m.L id).rd ∧ (sxAt m.L id).rd ≤ (sxAt m.L id).cm ∧ (sxAt m.L id).cm ≤ 16384 * 402 := ⟨E.rd.1, E.rd.2.1, by have := E.rd.2.2; have := E.cm; have := E.td; omega⟩
  have hrc : 0 ≤ m.rc ∧ m.rc ≤ 16384 * 402 := ⟨hI.rc.1, by have := hI.rc.2; omega⟩
  have h0 : 0 < m.L.length := by have := c.1; omega
  obtain ⟨lb, cap, elv, hne, hlb, ⟨cur, hg⟩, hcell⟩ := PB.at' h0
  subst elv
  have c9 : (w.alloc obZ).cell? ⟨x, 9, none⟩ = some (.slice (some ⟨lb, 0, none⟩) m.L.length cap) := PB.cell 9
  have a4 : (w.alloc obZ).cell? ⟨lb, ixf m.L id * 7 + 4, none⟩ = some (.int .i64 (sxAt m.L id).cm) := hcell _ c.1 4 (by omega)
  have a5 : (w.alloc obZ).cell? ⟨lb, ixf m.L id * 7 + 5, none⟩ = some (.int .i64 (sxAt m.L id).rd) := hcell _ c.1 5 (by omega)
  have a3 : (w.alloc obZ).cell? ⟨lb, ixf m.L id * 7 + 3, none⟩ = some (.int .i64 (sxAt m.L id).td) := hcell _ c.1 3 (by omega)
  have f5 := bk_free hg (ixf m.L id * 7 + 5)
  have c2 : (w.alloc obZ).cell? ⟨x, 2, none⟩ = some (.int .i64 F.sw) := PB.cell 2
  have c18 : (w.alloc obZ).cell? ⟨x, 18, none⟩ = some (.int .i64 m.rc) := PB.cell 18
  have f18 := PB.free 18
  have hjl := c.1
  have e : fread F m id n = ({ m with L := sxSet m.L id { sxAt m.L id with rd := (sxAt m.L id).rd + n, td := tdV F.sw ((sxAt m.L id).rd + n) (sxAt m.L id).td }, rc := m.rc + n, tc := tdV F.cw (m.rc + n) m.tc },
      ⟨0, 0, 0, (if tdV F.sw ((sxAt m.L id).rd + n) (sxAt m.L id).td = (sxAt m.L id).td then [] else [(17, id, tdV F.sw ((sxAt m.L id).rd + n) (sxAt m.L id).td)]) ++ (if tdV F.cw (m.rc + n) m.tc = m.tc then [] else [(16, tdV F.cw (m.rc + n) m.tc, 0)])⟩) := (if_pos c).trans (if_neg (by omega))
  rw [e]
  have ht0 := E.td
  have htc0 := hI.tc
  have hsc0 := hI.sum0.2.1
  have hcm0 := E.cm
  have CN1 := fun u => specCN ((sxAt m.L id).rd + n) F.sw (sxAt m.L id).td u
  rw [cnV_tdV (by omega) (by omega) (by omega)] at CN1
  have CN2 := fun u => specCN (m.rc + n) F.cw m.tc u
  rw [cnV_tdV (by omega) (by omega) (by omega)] at CN2
  obtain ⟨t1, et1⟩ : ∃ t, t = tdV F.sw ((sxAt m.L id).rd + n) (sxAt m.L id).td := ⟨_, rfl⟩
  obtain ⟨t2, et2⟩ : ∃ t, t = tdV F.cw (m.rc + n) m.tc := ⟨_, rfl⟩
  rw [← et1, ← et2]
  rw [← et1] at CN1
  rw [← et2] at CN2
  clear e et1 et2
  obtain ⟨fr1, er1⟩ : ∃ l : List (Int × Int × Int), l = if t1 = (sxAt m.L id).td then [] else [(17, id, t1)] := ⟨_, rfl⟩
  obtain ⟨fr2, er2⟩ : ∃ l : List (Int × Int × Int), l = if t2 = m.tc then [] else [(16, t2, 0)] := ⟨_, rfl⟩
  rw [← er1, ← er2]
  have hfl : fr1.length ≤ 1 := by rw [er1]; split <;> simp
  have E1 : Hid _ := er1
  have E2 : Hid _ := er2
  clear er1 er2
  have hq : w.heap.size ≠ lb := bk_apart (heap_alloc_new w obZ) hg (by decide)
  have hqx : w.heap.size ≠ x := bk_apart (heap_alloc_new w obZ) PB.bk (by decide)
  obtain ⟨x1, ex1⟩ : ∃ x : SX, x = { sxAt m.L id with rd := (sxAt m.L id).rd + n } := ⟨_, rfl⟩
  obtain ⟨m1, em1⟩ : ∃ x : FX, x = { m with L := sxSet m.L id x1, rc := m.rc + n } := ⟨_, rfl⟩
  obtain ⟨m2, em2⟩ : ∃ x : FX, x = { m with L := sxSet m.L id { sxAt m.L id with rd := (sxAt m.L id).rd + n, td := t1 }, rc := m.rc + n } := ⟨_, rfl⟩
  have ei1 : x1.id = id := by rw [ex1]; exact ei
  have R1 : ∀ q : Nat, OR x base w (((((w.alloc obZ).drewN q).setCell ⟨lb, ixf m.L id * 7 + 5, none⟩ (.int .i64 ((sxAt m.L id).rd + n))).setCell ⟨x, 18, none⟩ (.int .i64 (m.rc + n))).alloc obZ) F m1 (.slice (some ⟨lb, 0, none⟩) m.L.length cap) (.slice none 0 0) [] := fun q => by
    have PQ := PB.drewN q
    have P1 := PQ.setA c.1 rfl 5 (by omega) (.int .i64 ((sxAt m.L id).rd + n)) x1 (by rw [ex1]; rfl)
    have C1 := PQ.chA ((ChT.of_below hB).drewN q) h0 rfl (ixf m.L id * 7 + 5) (.int .i64 ((sxAt m.L id).rd + n))
    have P2 := P1.setK (m' := m1) 18 (.int .i64 (m.rc + n)) (by rw [em1]; rfl) (by rw [em1])
    have C2 := P1.chK C1 18 (.int .i64 (m.rc + n))
    have H1 := (bk_other (w := ((w.alloc obZ).drewN q).setCell ⟨lb, ixf m.L id * 7 + 5, none⟩ (.int .i64 ((sxAt m.L id).rd + n))) hqx 18 (.int .i64 (m.rc + n))).trans ((bk_other (w := (w.alloc obZ).drewN q) hq (ixf m.L id * 7 + 5) (.int .i64 ((sxAt m.L id).rd + n))).trans (heap_alloc_new w obZ))
    exact OR.start P2 C2 H1 (by simp only [setCell_sizeT]; simp)
  -- behind the first frame
  have il1 : ixf m1.L id = ixf m.L id := by rw [em1]; exact set_ixf _ _ _ _ ei1
  have ll1 : m1.L.length = m.L.length := by rw [em1]; exact set_len _ _ _
  have xa1 : sxAt m1.L id = x1 := by rw [em1]; exact sxAt_set ei1 c.1
  have hm2L : sxSet m1.L id { x1 with td := t1 } = m2.L := by rw [em1, em2, ex1]; exact sxSet_set (by exact ei)
  have hm2 : ({ m1 with L := sxSet m1.L id { x1 with td := t1 } } : FX) = m2 := by rw [hm2L, em1, em2]
  have hm1x : (sxAt m1.L id).rd = (sxAt m.L id).rd + n ∧ (sxAt m1.L id).td = (sxAt m.L id).td := by rw [xa1, ex1]; exact ⟨rfl, rfl⟩
  have A1 : ∀ (W : World) (fv : Value) (fr : List (Int × Int × Int)), OR x base w W F m1 (.slice (some ⟨lb, 0, none⟩) m.L.length cap) fv fr → W.cell? ⟨x, 9, none⟩ = some (.slice (some ⟨lb, 0, none⟩) m.L.length cap) ∧ W.cell? ⟨x, 2, none⟩ = some (.int .i64 F.sw) ∧ W.cell? ⟨lb, ixf m.L id * 7 + 5, none⟩ = some (.int .i64 ((sxAt m.L id).rd + n)) ∧ W.cell? ⟨lb, ixf m.L id * 7 + 3, none⟩ = some (.int .i64 (sxAt m.L id).td) ∧ W.cell? ⟨w.heap.size + 1, 3, none⟩ = some fv ∧ W.frozen? ⟨w.heap.size + 1, 3, none⟩ = false := fun W fv fr R => by
    obtain ⟨lb', c', e', _, _, _, hc'⟩ := R.P.at' (by rw [ll1]; exact h0)
    simp only [Value.slice.injEq, Option.some.injEq, Addr.mk.injEq] at e'
    obtain ⟨⟨rfl, _⟩, _⟩ := e'
    have k5 := hc' (ixf m.L id) (by rw [ll1]; exact c.1) 5 (by omega)
    have k3 := hc' (ixf m.L id) (by rw [ll1]; exact c.1) 3 (by omega)
    have ex : m1.L.getD (ixf m.L id) default = sxAt m1.L id := by unfold sxAt; rw [il1]
    rw [ex] at k5 k3
    refine ⟨(R.P.cell 9).trans rfl, (R.P.cell 2).trans rfl, k5.trans ?_, k3.trans ?_, bk_cell R.h2 3, bk_free R.h2 3⟩
    · show some (Value.int .i64 (sxAt m1.L id).rd) = _
      rw [hm1x.1]
    · show some (Value.int .i64 (sxAt m1.L id).td) = _
      rw [hm1x.2]
  have A2 : ∀ (W : World) (fv : Value) (fr : List (Int × Int × Int)), OR x base w W F m1 (.slice (some ⟨lb, 0, none⟩) m.L.length cap) fv fr → W.cell? ⟨x, 9, none⟩ = some (.slice (some ⟨lb, 0, none⟩) m.L.length cap) ∧ W.frozen? ⟨lb, ixf m.L id * 7 + 3, none⟩ = false ∧ W.cell? ⟨x, 18, none⟩ = some (.int .i64 (m.rc + n)) ∧ W.cell? ⟨x, 1, none⟩ = some (.int .i64 F.cw) ∧ W.cell? ⟨x, 17, none⟩ = some (.int .i64 m.tc) ∧ W.cell? ⟨lb, ixf m.L id * 7 + 3, none⟩ = some (.int .i64 (sxAt m.L id).td) ∧ w.heap.size + 1 ≠ lb ∧ lb ≠ w.heap.size + 1 ∧ OR x base w (W.setCell ⟨lb, ixf m.L id * 7 + 3, none⟩ (.int .i64 t1)) F m2 (.slice (some ⟨lb, 0, none⟩) m.L.length cap) fv fr := fun W fv fr R => by
    obtain ⟨lb', c', e', _, _, ⟨cur', hg'⟩, _⟩ := R.P.at' (by rw [ll1]; exact h0)
    simp only [Value.slice.injEq, Option.some.injEq, Addr.mk.injEq] at e'
    obtain ⟨⟨rfl, _⟩, _⟩ := e'
    refine ⟨(R.P.cell 9).trans rfl, bk_free hg' _, (R.P.cell 18).trans (by rw [em1]; rfl), (R.P.cell 1).trans rfl, (R.P.cell 17).trans (by rw [em1]; rfl), (A1 W fv fr R).2.2.2.1, bk_apart R.h2 hg' (by decide), bk_apart hg' R.h2 (by decide), ?_⟩
    have Q := R.P.setA (id := id) (by rw [il1, ll1]; exact c.1) (by rw [ll1]) 3 (by omega) (.int .i64 t1) { x1 with td := t1 } (by rw [xa1]; rfl)
    rw [hm2, il1] at Q
    exact R.keep hg' (by decide) Q (R.P.chA R.C (by rw [ll1]; exact h0) (by rw [ll1]) _ _)
  have A3 : ∀ (W : World) (fv : Value) (fr : List (Int × Int × Int)), OR x base w W F m2 (.slice (some ⟨lb, 0, none⟩) m.L.length cap) fv fr → W.frozen? ⟨x, 17, none⟩ = false ∧ W.cell? ⟨x, 17, none⟩ = some (.int .i64 m.tc) ∧ OR x base w (W.setCell ⟨x, 17, none⟩ (.int .i64 t2)) F { m2 with tc := t2 } (.slice (some ⟨lb, 0, none⟩) m.L.length cap) fv fr := fun W fv fr R =>
    ⟨R.P.free 17, (R.P.cell 17).trans (by rw [em2]; rfl), R.keep R.P.bk (by decide) (R.P.setK 17 (.int .i64 t2) rfl rfl) (R.P.chK R.C 17 (.int .i64 t2))⟩
  have em3 : ({ m2 with tc := t2 } : FX) = { m with L := sxSet m.L id { sxAt m.L id with rd := (sxAt m.L id).rd + n, td := t1 }, rc := m.rc + n, tc := t2 } := by rw [em2]
  rw [← em3]
  have HG : Hid _ := And.intro S (And.intro CN1 CN2)
  have HA : Hid _ := And.intro A2 (And.intro A3 A1)
  have HR : Hid _ := R1
  have hyd : decide ((sxAt m.L id).cm - (sxAt m.L id).rd < n) = false := decide_eq_false hy
  have hxd : decide (n < 1) = false := decide_eq_false hx
  unfold obZ at *
  clear hF hF2 PB hB hI P S c E ei hcell hg h0 CN1 CN2 A1 A2 A3 R1 hm1x ex1 em1 em2 em3 ei1 il1 ll1 xa1 hm2L hm2
  generalize ixf m.L id = j at *
  generalize (sxAt m.L id).cm = cm at *
  generalize (sxAt m.L id).rd = rd at *
  generalize (sxAt m.L id).td = td at *
  generalize m.rc = rc at *
  generalize m.tc = tc at *
  obtain ⟨ln, eln⟩ : ∃ ln, ln = m.L.length := ⟨_, rfl⟩
  rw [← eln] at c9 hjl hlen HA HR
  clear eln
  go_enter Try.func31, Try.ntmps31
  go_wp2_with (first | (go_at_call 50; refine (HG.out.1).mono ?_; rintro e w1 ⟨rfl, hw1⟩; subst hw1))
  go_quiet (fail)
  go_upto_region 6 with fail
  go_region
  go_upto_region 9 with fail
  have R2 := HR.out (nq + 1)
  generalize (((((w.alloc (.cells #[.int .i64 0, .int .i64 0, .int .i64 0, .slice none 0 0] 35)).drewN (nq + 1)).setCell ⟨lb, j * 7 + 5, none⟩ (.int .i64 (rd + n))).setCell ⟨x, 18, none⟩ (.int .i64 (rc + n))).alloc (.cells #[.int .i64 0, .int .i64 0, .int .i64 0, .slice none 0 0] 35)) = W1 at R2 ⊢
  have HW : Hid _ := R2
  obtain ⟨k9, k2, k5, k3, kq, fq⟩ := HA.out.2.2 W1 _ _ R2
  clear R2 c9 a4 a5 a3 f5 c2 c18 f18
  go_quiet (first | (go_at_call 51; exact (HG.out.2.1 _).mono fun _ _ h => ⟨h.1, _, h.2⟩))
  go_upto_if 98 with fail
  go_cut [] from 98 to 106 (fun wx => ∃ fv, OR x base w wx F m1 (.slice (some ⟨lb, 0, none⟩) ln cap) fv fr1)
  case first =>
    by_cases ht : t1 = td
    · have hb : (t1 != td) = false := by simpa using ht
      have HE : Hid _ := ht
      clear ht
      go_wp2
      go_meet
      exact ⟨_, by rw [E1.out, if_pos HE.out]; exact OR.drewN HW.out nq⟩
    · have hb : (t1 != td) = true := by simpa using ht
      have HE : Hid _ := ht
      clear ht
      go_wp2_with (at_builtin; refine wpList_append_flat rfl (.tmp 100) (.tmp 104) 33 38 Try.underlying33 _ 8 112 infoFrC rfl (by decide) (by decide) rfl w.heap.size (.slice none 0 0) (([] : List (Int × Int × Int)).map frC) (frC_flat _) rfl (framesM _ _) _ [frC (17, id, t1)] (frC_flat [(17, id, t1)]) rfl (lit_flatG _ (frC (17, id, t1)) 38 _ (by simp [World.setCell])) (by simp <;> omega) (by have q := HW.out.C.size; (try simp only [setCell_sizeT] at q); simp <;> omega) ?_; intro v6 w6 o6 g6; obtain ⟨p1, p2, p3⟩ := OR.app (OR.drewN HW.out nq) (17, id, t1) v6 w6 o6 g6; obtain ⟨ga, gn, gc, ef, efn⟩ := slice_form o6; have H6 : Hid _ := p1; clear o6 g6 p1 efn; subst ef)
      go_meet
      exact ⟨_, by rw [E1.out, if_neg HE.out]; exact H6.out⟩
  case rest =>
  obtain ⟨fv, RC⟩ := hcut
  have kq2 := bk_cell RC.h2 3
  obtain ⟨e9, e3, e18, e1, e17, e3c, hq2, hq3, R3⟩ := HA.out.1 _ _ _ RC
  obtain ⟨fa, fn, fc, efv, efn⟩ := slice_form RC.f
  subst efv
  replace kq2 : wc.cell? ⟨w.heap.size + 1, 3, none⟩ = some (.slice fa fn fc) := kq2
  clear kq fq HW k9 k2 k5 k3 RC efn
  have HB : Hid _ := R3
  clear R3
  go_upto_region 13 with fail
  go_quiet (first | (go_at_call 51; exact (HG.out.2.2 _).mono fun _ _ h => ⟨h.1, _, h.2⟩))
  go_upto_if 134 with fail
  go_cut [] from 134 to 141 (fun wx => ∃ fv, OR x base w wx F m2 (.slice (some ⟨lb, 0, none⟩) ln cap) fv (fr1 ++ fr2))
  case first =>
    by_cases ht : t2 = tc
    · have hb : (t2 != tc) = false := by simpa using ht
      have HE : Hid _ := ht
      clear ht
      go_wp2
      go_meet
      exact ⟨_, by rw [E2.out, if_pos HE.out, List.append_nil]; exact OR.drewN HB.out nq⟩
    · have hb : (t2 != tc) = true := by simpa using ht
      have HE : Hid _ := ht
      clear ht
      go_wp2_with (at_builtin; refine wpList_append_flat rfl (.tmp 136) (.tmp 139) 33 38 Try.underlying33 _ 8 112 infoFrC rfl (by decide) (by decide) rfl w.heap.size (.slice fa fn fc) (fr1.map frC) (frC_flat _) rfl ((OR.drewN HB.out nq).f.below ((Below.refl _ _).alloc (Nat.le_refl _) _)) _ [frC (16, t2, 0)] (frC_flat [(16, t2, 0)]) rfl (lit_flatG _ (frC (16, t2, 0)) 38 _ (by simp [World.setCell])) (by simp <;> omega) (by have q := HB.out.C.size; (try simp only [setCell_sizeT] at q); simp <;> omega) ?_; intro v6 w6 o6 g6; obtain ⟨p1, p2, p3⟩ := OR.app (OR.drewN HB.out nq) (16, t2, 0) v6 w6 o6 g6; obtain ⟨ga, gn, gc, ef, efn⟩ := slice_form o6; have H6 : Hid _ := p1; clear o6 g6 p1 efn; subst ef)
      go_meet
      exact ⟨_, by rw [E2.out, if_neg HE.out]; exact H6.out⟩
  case rest =>
  obtain ⟨fv2, RC⟩ := hcut
  obtain ⟨f17, e17b, R3⟩ := HA.out.2.1 _ _ _ RC
  obtain ⟨fa2, fn2, fc2, efv2, efn2⟩ := slice_form RC.f
  subst efv2
  have HC : Hid _ := R3
  clear R3 RC HB HA efn2
  go_wp2_with (first | (refine wpList_load_row rfl 35 (.tmp 8) rfl (w.heap.size + 1) rfl 35 #[.int .i64 0, .int .i64 0, .int .i64 0, .slice fa2 fn2 fc2] (0, 0) _ HC.out.h2 Try.underlying35 rfl infoFObsM ?_) | (refine wpList_store_row rfl 35 _ _ rfl w.heap.size #[.int .i64 0, .int .i64 0, .int .i64 0, .slice fa2 fn2 fc2] rfl rfl 35 _ (HC.out).h1 infoFObsM rfl (by simp [Value.oneCell']) ?_))
  have T := ((OM.mk ⟨_, HC.out.P⟩ HC.out.C HC.out.h1 HC.out.f)).row (Nat.le_refl _) #[.int .i64 0, .int .i64 0, .int .i64 0, .slice fa2 fn2 fc2]
  try simp only [Exit.inBlock, Exit.then]
  refine bodyPost_ret (v := .agg #[.int .i64 0, .int .i64 0, .int .i64 0, .slice fa2 fn2 fc2]) ?_ rfl ?_
  · exact results_cell_row (t := 35) rfl _ _ (w.heap.size) _ (fr := (0, 0)) _ rfl T.h1 Try.underlying35 rfl infoFObsM
  · exact ⟨_, rfl, T.f, T.P, T.C⟩

end Go.Proofs.Ythjakbpcpfmbjaa

namespace Go.Proofs.Ythjakbpcpfmbjaa
open Go.RowKit
set_option linter.unusedVariables false
set_option linter.unusedSimpArgs false

set_option maxRecDepth 20000 in
set_option maxHeartbeats 4000000 in
theorem readM (x base : Nat) (F : FS) (hF : fsOK F = true) (m : FX) (i : Nat) (id n : Int) (w : World) (h : MRep w x base F m) (hI : FXI F i m) (hi : i ≤ 400) (hbase : base ≤ w.heap.size) :
    Calls Try.prog 31 #[.pointer (some ⟨x, 0, none⟩), .int .i64 id, .int .i64 n] w fun e w' => ∃ fv, e = .returned (.agg #[.int .i64 (fread F m id n).2.code, .int .i64 (fread F m id n).2.id, .int .i64 (fread F m id n).2.cnt, fv]) ∧ GOwns 38 8 w' w.heap.size fv ((fread F m id n).2.fr.map frC) ∧ MDo w w' x base F (fread F m id n).1 := by
  have T0 : OM w.heap.size x base w (w.alloc obZ) F m (.slice none 0 0) [] #[.int .i64 0, .int .i64 0, .int .i64 0, .slice none 0 0] := OM.new h 0
  have HSM : Hid _ := h
  obtain ⟨lv, P⟩ := h
  have hB : Below w.heap.size w (w.alloc obZ) := (Below.refl _ _).alloc (Nat.le_refl _) _
  have PB := P.below hB
  have hlen := hI.len_le hi
  have S := getsM x base F m lv i id (w.alloc obZ) PB hI hi
  by_cases c : canG F m.L id
  case neg =>
    rw [show fread F m id n = (m, ⟨7, 0, 0, []⟩) from if_neg c]
    rw [if_neg c] at S
    unfold obZ at *
    have HH : Hid _ := T0
    have HG : Hid _ := And.intro S True.intro
    clear hF PB hB hI T0 P S c
    go_enter Try.func31, Try.ntmps31
    go_wp2_with (first | (go_at_call 50; refine (HG.out.1).mono ?_; rintro e w1 ⟨rfl, hw1⟩; subst hw1) | (refine wpList_store_row rfl 35 _ _ rfl w.heap.size #[.int .i64 7, .int .i64 0, .int .i64 0, .slice none 0 0] rfl rfl 35 _ (HH.out).h1 infoFObsM rfl (by simp [Value.oneCell']) ?_))
    have T := (HH.out).row (Nat.le_refl _) #[.int .i64 7, .int .i64 0, .int .i64 0, .slice none 0 0]
    try simp only [Exit.inBlock, Exit.then]
    refine bodyPost_ret (v := .agg #[.int .i64 7, .int .i64 0, .int .i64 0, .slice none 0 0]) ?_ rfl ?_
    · exact results_cell_row (t := 35) rfl _ _ (w.heap.size) _ (fr := (0, 0)) _ rfl T.h1 Try.underlying35 rfl infoFObsM
    · exact ⟨_, rfl, T.f, T.P, T.C⟩

  case pos =>
  rw [if_pos c] at S
  obtain ⟨E, ei⟩ := hI.at' c.1
  have hF2 := hF
  simp only [fsOK, decide_eq_true_eq] at hF2
  have hrd : 0 ≤ (sxAt m.L id).rd ∧ (sxAt m.L id).rd ≤ (sxAt m.L id).cm ∧ (sxAt m.L id).cm ≤ 16384 * 402 := ⟨E.rd.1, E.rd.2.1, by have := E.rd.2.2; have := E.cm; have := E.td; omega⟩
  have hrc : 0 ≤ m.rc ∧ m.rc ≤ 16384 * 402 := ⟨hI.rc.1, by have := hI.rc.2; omega⟩
  have h0 : 0 < m.L.length := by have := c.1; omega
  obtain ⟨lb, cap, elv, hne, hlb, ⟨cur, hg⟩, hcell⟩ := PB.at' h0
  subst elv
  have c9 : (w.alloc obZ).cell? ⟨x, 9, none⟩ = some (.slice (some ⟨lb, 0, none⟩) m.L.length cap) := PB.cell 9
  have a4 : (w.alloc obZ).cell? ⟨lb, ixf m.L id * 7 + 4, none⟩ = some (.int .i64 (sxAt m.L id).cm) := hcell _ c.1 4 (by omega)
  have a5 : (w.alloc obZ).cell? ⟨lb, ixf m.L id * 7 + 5, none⟩ = some (.int .i64 (sxAt m.L id).rd) := hcell _ c.1 5 (by omega)
  have hjl := c.1

  by_cases hxx : n < 1
  · rw [show fread F m id n = (m, ⟨1, 0, 0, []⟩) from (if_pos c).trans (if_pos (Or.inl hxx))]
    obtain ⟨j, ej⟩ : ∃ j, j = ixf m.L id := ⟨_, rfl⟩
    obtain ⟨ln, eln⟩ : ∃ ln, ln = m.L.length := ⟨_, rfl⟩
    obtain ⟨cm, ecm⟩ : ∃ y, y = (sxAt m.L id).cm := ⟨_, rfl⟩
    obtain ⟨rd, erd⟩ : ∃ y, y = (sxAt m.L id).rd := ⟨_, rfl⟩
    rw [← ej] at S a4 a5 hjl
    rw [← eln] at c9 hjl hlen
    rw [← ecm] at a4 hrd
    rw [← erd] at a5 hrd
    have HT : Hid _ := fun q => OM.drewN T0 q
    have HG : Hid _ := And.intro S True.intro
    clear ej eln ecm erd hF2 hF PB hB hI T0 P S c E ei hcell hg h0 hrc
    unfold obZ at *
    go_enter Try.func31, Try.ntmps31
    go_wp2_with (first | (go_at_call 50; refine (HG.out.1).mono ?_; rintro e w1 ⟨rfl, hw1⟩; subst hw1))
    go_quiet (fail)
    go_wp2_with (refine wpList_store_row rfl 35 _ _ rfl w.heap.size #[.int .i64 1, .int .i64 0, .int .i64 0, .slice none 0 0] rfl rfl 35 _ (HT.out _).h1 infoFObsM rfl (by simp [Value.oneCell']) ?_)
    have T := (HT.out nq).row (Nat.le_refl _) #[.int .i64 1, .int .i64 0, .int .i64 0, .slice none 0 0]
    try simp only [Exit.inBlock, Exit.then]
    refine bodyPost_ret (v := .agg #[.int .i64 1, .int .i64 0, .int .i64 0, .slice none 0 0]) ?_ rfl ?_
    · exact results_cell_row (t := 35) rfl _ _ (w.heap.size) _ (fr := (0, 0)) _ rfl T.h1 Try.underlying35 rfl infoFObsM
    · exact ⟨_, rfl, T.f, T.P, T.C⟩

  have hx := hxx
  by_cases hy : (sxAt m.L id).cm - (sxAt m.L id).rd < n
  · rw [show fread F m id n = (m, ⟨1, 0, 0, []⟩) from (if_pos c).trans (if_pos (Or.inr hy))]
    obtain ⟨j, ej⟩ : ∃ j, j = ixf m.L id := ⟨_, rfl⟩
    obtain ⟨ln, eln⟩ : ∃ ln, ln = m.L.length := ⟨_, rfl⟩
    obtain ⟨cm, ecm⟩ : ∃ y, y = (sxAt m.L id).cm := ⟨_, rfl⟩
    obtain ⟨rd, erd⟩ : ∃ y, y = (sxAt m.L id).rd := ⟨_, rfl⟩
    rw [← ej] at S a4 a5 hjl
    rw [← eln] at c9 hjl hlen
    rw [← ecm] at a4 hrd hy
    rw [← erd] at a5 hrd hy
    have hyd : decide (cm - rd < n) = true := decide_eq_true hy
    have hxd : decide (n < 1) = false := decide_eq_false hx
    have HT : Hid _ := fun q => OM.drewN T0 q
    have HG : Hid _ := And.intro S True.intro
    clear ej eln ecm erd hF2 hF PB hB hI T0 P S c E ei hcell hg h0 hrc
    unfold obZ at *
    go_enter Try.func31, Try.ntmps31
    go_wp2_with (first | (go_at_call 50; refine (HG.out.1).mono ?_; rintro e w1 ⟨rfl, hw1⟩; subst hw1))
    go_quiet (fail)
    go_wp2_with (refine wpList_store_row rfl 35 _ _ rfl w.heap.size #[.int .i64 1, .int .i64 0, .int .i64 0, .slice none 0 0] rfl rfl 35 _ (HT.out _).h1 infoFObsM rfl (by simp [Value.oneCell']) ?_)
    have T := (HT.out nq).row (Nat.le_refl _) #[.int .i64 1, .int .i64 0, .int .i64 0, .slice none 0 0]
    try simp only [Exit.inBlock, Exit.then]
    refine bodyPost_ret (v := .agg #[.int .i64 1, .int .i64 0, .int .i64 0, .slice none 0 0]) ?_ rfl ?_
    · exact results_cell_row (t := 35) rfl _ _ (w.heap.size) _ (fr := (0, 0)) _ rfl T.h1 Try.underlying35 rfl infoFObsM
    · exact ⟨_, rfl, T.f, T.P, T.C⟩

  exact readDo x base F hF m i id n w HSM.out hI hi hbase c hx hy
end Go.Proofs.Ythjakbpcpfmbjaa
