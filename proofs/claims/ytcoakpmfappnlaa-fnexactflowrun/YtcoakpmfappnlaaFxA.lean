import Derived.Test.YtcoakpmfappnlaaFlNest
import Derived.Deep.LoopGhost
namespace Go.Proofs.Ytcoakpmfappnlaa
open Go.RowKit
set_option linter.unusedVariables false
set_option linter.unusedSimpArgs false

def xc (s : SX) : List Value := [.int .i64 s.id, .int .i64 s.cr, .int .i64 s.sn, .int .i64 s.td, .int .i64 s.cm, .int .i64 s.rd, .bool s.ov]
theorem xc_flat (L : List SX) : FlatK 7 (L.map xc) := fun x hx => by
  obtain ⟨y, _, rfl⟩ := List.mem_map.1 hx
  refine ⟨rfl, fun v hv => ?_⟩
  unfold xc at hv
  simp only [List.mem_cons, List.not_mem_nil, or_false] at hv
  rcases hv with rfl | rfl | rfl | rfl | rfl | rfl | rfl <;> rfl
theorem infoXS : (Try.prog.info? 94).map (fun i => (i.zero, i.size, i.bytes)) = some (some (.agg #[.int .i64 0, .int .i64 0, .int .i64 0, .int .i64 0, .int .i64 0, .int .i64 0, .bool false]), 7, 56) := by kernel_rfl
def mcells (F : FS) (m : FX) (lv : Value) : Array Value :=
  #[.bool F.sv, .int .i64 F.cw, .int .i64 F.sw, .int .i64 F.tw, .int .i64 F.ow, .int .i64 F.pc, .int .i64 F.ps, .int .i64 F.pt, .int .i64 F.po, lv,
    .int .i64 (m.op false), .int .i64 (m.op true), .int .i64 (m.my false), .int .i64 (m.my true), .int .i64 m.cc, .int .i64 (m.tin false), .int .i64 (m.tin true), .int .i64 m.tc, .int .i64 m.rc]
/-- The model's credit in memory. -/
structure MR (w : World) (x base : Nat) (F : FS) (m : FX) (lv : Value) : Prop where
  bk : w.heap[x]? = some (.cells (mcells F m lv) 59 (0, 0))
  ow : GOwns 94 7 w base lv (m.L.map xc)
  lo : base ≤ x
def MRep (w : World) (x base : Nat) (F : FS) (m : FX) : Prop := ∃ lv, MR w x base F m lv
def mT (T : TypeId) : Bool := T == 59 || T == 94
abbrev MCh (base : Nat) (w w' : World) : Prop := ChT mT base w w'
section
variable {w w' : World} {x base : Nat} {F : FS} {m : FX} {lv : Value}
theorem MR.below (h : MR w x base F m lv) (hb : Below w.heap.size w w') : MR w' x base F m lv := ⟨(hb.block x (Array.getElem?_eq_some_iff.1 h.bk).1).trans h.bk, h.ow.below hb, h.lo⟩
theorem MR.drewN (h : MR w x base F m lv) (n : Nat) : MR (w.drewN n) x base F m lv := h.below (below_drewN (Below.refl _ _) n)
theorem MR.cell (h : MR w x base F m lv) (i : Nat) : w.cell? ⟨x, i, none⟩ = (mcells F m lv)[i]? := bk_cell h.bk i
theorem MR.free (h : MR w x base F m lv) (i : Nat) : w.frozen? ⟨x, i, none⟩ = false := bk_free h.bk i
theorem MR.form (h : MR w x base F m lv) : ∃ a c, lv = .slice a m.L.length c := by
  obtain ⟨a, c, e⟩ := h.ow.row.form
  exact ⟨a, c, by rw [e, List.length_map]⟩
/-- Where the streams lie. -/
theorem MR.at' (h : MR w x base F m lv) (h0 : 0 < m.L.length) : ∃ lb c, lv = .slice (some ⟨lb, 0, none⟩) m.L.length c ∧ lb ≠ x ∧ base ≤ lb ∧ (∃ cur, w.heap[lb]? = some (.cells cur 94 (0, 0))) ∧ ∀ j, j < m.L.length → ∀ f, f < 7 → w.cell? ⟨lb, j * 7 + f, none⟩ = (xc (m.L.getD j default))[f]? := by
  obtain ⟨zs, o, hz⟩ := h.ow
  have o' := o
  rcases o.2 with ⟨rfl, h1⟩ | ⟨g, cap, cur, rfl, hb, hg, hr⟩
  · rw [List.length_map] at h1; omega
  · refine ⟨g, cap, by rw [List.length_map], (bk_apart hg h.bk (by decide)), hb, ⟨cur, hg⟩, fun j hj f hf => ?_⟩
    have e0 := o'.cellAt (j * 7 + f) (jK_lt (by rw [List.length_map]; exact hj) hf)
    rw [e0, hz j (by rw [List.length_map]; exact hj) f hf]
    simp [List.getD, hj]
/-- A store into the model's own block. -/
theorem MR.setK (h : MR w x base F m lv) (i : Nat) (u : Value) {m' : FX} (hc : (mcells F m lv).setIfInBounds i u = mcells F m' lv) (e1 : m'.L = m.L) : MR (w.setCell ⟨x, i, none⟩ u) x base F m' lv := by
  refine ⟨by rw [bk_set h.bk i u, hc], ?_, h.lo⟩
  rw [e1]
  obtain ⟨zs, ⟨hl, h2⟩, hz⟩ := h.ow
  refine ⟨zs, ⟨hl, ?_⟩, hz⟩
  rcases h2 with h2 | ⟨g', cap, cur, rfl, hg, hh, r⟩
  · exact Or.inl h2
  · exact Or.inr ⟨g', cap, cur, rfl, hg, (bk_other (bk_apart hh h.bk (by decide)) i u).trans hh, r⟩
/-- A store into a stream. -/
theorem MR.setA (h : MR w x base F m lv) {id : Int} (hl : ixf m.L id < m.L.length) {lb : Nat} {c : Nat} (e : lv = .slice (some ⟨lb, 0, none⟩) m.L.length c) (i : Nat) (hi : i < 7) (u : Value) (y : SX) (hc : (xc (sxAt m.L id)).set i u = xc y) :
    MR (w.setCell ⟨lb, ixf m.L id * 7 + i, none⟩ u) x base F { m with L := sxSet m.L id y } lv := by
  subst e
  obtain ⟨zs, o, hz⟩ := h.ow
  rw [List.length_map] at o hz
  have hxl : ∀ s : SX, (xc s).length = 7 := fun s => rfl
  refine ⟨?_, ⟨zs.set (ixf m.L id * 7 + i) u, ?_, fun j hj f hf => ?_⟩, h.lo⟩
  · have hne : x ≠ lb := by
      obtain ⟨lb', c', e', hne, _⟩ := h.at' (by omega)
      simp only [Value.slice.injEq, Option.some.injEq, Addr.mk.injEq] at e'
      obtain ⟨⟨rfl, _⟩, _⟩ := e'
      exact hne.symm
    rw [bk_other hne]; exact h.bk
  · show (w.setCell _ u).ownsRow base _ 7 _ ((sxSet m.L id y).map xc).length _
    rw [List.length_map, set_len]
    exact (o.stored (ixf m.L id * 7 + i) u).1
  · replace hj : j < ((sxSet m.L id y).map xc).length := hj
    rw [List.length_map, set_len] at hj
    have e1 : ((sxSet m.L id y).map xc).getD j [] = xc ((sxSet m.L id y).getD j default) := map_at xc _ default j (by rw [set_len]; exact hj)
    have e2 := hz j hj f hf
    rw [map_at xc m.L default j hj] at e2
    show _ = (((sxSet m.L id y).map xc).getD j [])[f]?
    rw [e1]
    have hzl : zs.length = m.L.length * 7 := o.1
    by_cases hj2 : j = ixf m.L id
    · subst hj2
      have e3 : (sxSet m.L id y).getD (ixf m.L id) default = y := by simp [sxSet, List.getD, hl]
      rw [e3, ← hc]
      by_cases hf2 : f = i
      · subst hf2
        rw [List.getElem?_set_self (by rw [hzl]; exact jK_lt hl hf), List.getElem?_set_self (by rw [hxl]; exact hf)]
      · rw [List.getElem?_set_ne (by omega), e2, List.getElem?_set_ne (by omega)]; rfl
    · have e3 : (sxSet m.L id y).getD j default = m.L.getD j default := by simp [sxSet, List.getD, List.getElem?_set_ne (Ne.symm hj2)]
      rw [e3, List.getElem?_set_ne (by
        intro q
        rcases Nat.lt_or_gt_of_ne hj2 with h1 | h1
        · have : (j + 1) * 7 ≤ ixf m.L id * 7 := Nat.mul_le_mul_right 7 h1
          omega
        · have : (ixf m.L id + 1) * 7 ≤ j * 7 := Nat.mul_le_mul_right 7 h1
          omega), e2]
theorem MR.chK {W : World} (h : MR w x base F m lv) (c : MCh base W w) (i : Nat) (u : Value) : MCh base W (w.setCell ⟨x, i, none⟩ u) := c.set h.bk (by decide) h.lo i u
theorem MR.chA {W : World} (h : MR w x base F m lv) (c : MCh base W w) (h0 : 0 < m.L.length) {lb cc : Nat} (e : lv = .slice (some ⟨lb, 0, none⟩) m.L.length cc) (i : Nat) (u : Value) : MCh base W (w.setCell ⟨lb, i, none⟩ u) := by
  obtain ⟨lb', c', e', _, hb, ⟨cur, hg⟩, _⟩ := h.at' h0
  rw [e] at e'
  simp only [Value.slice.injEq, Option.some.injEq, Addr.mk.injEq] at e'
  obtain ⟨⟨rfl, _⟩, _⟩ := e'
  exact c.set hg (by decide) hb i u
end
def atV (L : List SX) (id : Int) : Int := if ixf L id < L.length then (ixf L id : Int) else -1
theorem ixf_before {L : List SX} {id : Int} {j : Nat} (h : j < ixf L id) (hj : j < L.length) : (L.getD j default).id ≠ id := by
  have := List.not_of_lt_findIdx h
  simpa [List.getD, hj] using this
theorem ixf_here {L : List SX} {id : Int} {j : Nat} (h : j ≤ ixf L id) (hj : j < L.length) (e : (L.getD j default).id = id) : ixf L id = j := by
  have h2 : ¬ j < ixf L id := fun q => ixf_before q hj e
  omega
theorem SXI.num {F : FS} {i : Nat} {m : FX} (h : FXI F i m) (hi : i ≤ 400) {j : Nat} (hj : j < m.L.length) : 0 ≤ (m.L.getD j default).id ∧ (m.L.getD j default).id < 4611686018427387904 := by
  have hm : (m.L.getD j default) ∈ m.L := by simp [List.getD, hj]
  obtain ⟨o, k, hk, ⟨k1, e⟩ | ⟨k1, e⟩⟩ := (h.mem (m.L.getD j default).id).1 (List.mem_map.2 ⟨_, hm, rfl⟩)
  · have a := h.op o
    have b := h.my o
    rw [e]; exact idn_bound hk (by omega)
  · have a := h.th o
    have b := h.tin o
    rw [e]; exact idn_bound hk (by omega)
set_option maxRecDepth 20000 in
set_option maxHeartbeats 1000000 in
theorem atM (x base : Nat) (F : FS) (m : FX) (lv : Value) (id : Int) (w : World) (h : MR w x base F m lv) (hl : m.L.length ≤ 4096) :
    Calls Try.prog 53 #[.pointer (some ⟨x, 0, none⟩), .int .i64 id] w fun e w' => e = .returned (.int .i64 (atV m.L id)) ∧ w' = w := by
  have c9 : w.cell? ⟨x, 9, none⟩ = some lv := h.cell 9
  obtain ⟨a, c, ev⟩ := h.form
  obtain ⟨n, en⟩ : ∃ n, n = m.L.length := ⟨_, rfl⟩
  have HH : Hid _ := And.intro h en
  rw [← en] at hl ev
  subst ev
  clear h en
  go_enter Try.func53, Try.ntmps53
  go_wp2
  go_loopg [5] n (fun q i wr => ∃ k : Nat, k ≤ n ∧ q = n - k ∧ i = .int .i64 (k : Int) ∧ k ≤ ixf m.L id ∧ wr = w)
  case atStart => exact ⟨0, by omega, by omega, rfl, by omega, rfl⟩
  case round =>
    obtain ⟨k, hk, hq, rfl, hx, rfl⟩ := hrel
    by_cases hlt : k < n
    · obtain ⟨lb, c', e, hne, _, _, hc⟩ := HH.out.1.at' (by have := HH.out.2; omega)
      simp only [Value.slice.injEq] at e
      obtain ⟨rfl, -, -⟩ := e
      have c0 : wr.cell? ⟨lb, k * 7, none⟩ = some (.int .i64 (m.L.getD k default).id) := hc k (by have := HH.out.2; omega) 0 (by omega)
      by_cases e : (m.L.getD k default).id = id
      · have ex := ixf_here hx (by have := HH.out.2; omega) e
        have ea : atV m.L id = (k : Int) := by unfold atV; rw [if_pos (by have := HH.out.2; omega), ex]
        rw [e] at c0
        have HE : Hid _ := ea
        clear hc hx ex ea e
        go_wp2
        go_ret
        exact ⟨by rw [HE.out]; rfl, rfl⟩
      · have hbe : ((m.L.getD k default).id == id) = false := by simpa using e
        have hx2 : k + 1 ≤ ixf m.L id := by
          rcases Nat.lt_or_ge k (ixf m.L id) with q | q
          · omega
          · have eq : ixf m.L id = k := by omega
            have hlt2 : ixf m.L id < m.L.length := by have := HH.out.2; omega
            have z := (ixf_some hlt2).1
            unfold sxAt at z
            rw [eq] at z
            exact absurd z e
        have HX : Hid _ := hx2
        generalize (m.L.getD k default).id = y at *
        clear hc hx hx2
        go_wp2
        go_roundg (n - (k + 1))
        case measure => omega
        case rel => exact ⟨k + 1, by omega, rfl, by go_num, HX.out, rfl⟩
    · obtain rfl : k = n := by omega
      have ea : atV m.L id = -1 := by unfold atV; rw [if_neg (by have := HH.out.2; omega)]
      have HE : Hid _ := ea
      clear hx ea
      go_wp2
      go_ret
      exact ⟨by rw [HE.out]; rfl, rfl⟩
theorem wayM (o : Bool) (w : World) : Calls Try.prog 48 #[.bool o] w fun e w' => e = .returned (.int .i64 (if o then 1 else 0)) ∧ w' = w := by
  cases o
  · go_enter Try.func48, Try.ntmps48
    go_wp2
    go_ret
    exact ⟨rfl, rfl⟩
  · go_enter Try.func48, Try.ntmps48
    go_wp2
    go_ret
    exact ⟨rfl, rfl⟩
end Go.Proofs.Ytcoakpmfappnlaa
