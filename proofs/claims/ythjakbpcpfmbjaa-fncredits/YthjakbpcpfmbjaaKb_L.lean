import Derived.Test.YthjakbpcpfmbjaaKb_I
import Derived.Deep.LoopGhost
import Derived.Deep.RegionLaw
import Derived.Lib.MinMax
import Derived.BigRegion
import Derived.Laws.CopyOwn
import Derived.Laws.Tables
namespace Go.Proofs.Ythjakbpcpfmbjaa
open Go.RowKit
set_option linter.unusedVariables false
set_option linter.unusedSimpArgs false

def xc (s : SX) : List Value := [.int .i64 s.id, .int .i64 s.cr, .int .i64 s.sn, .int .i64 s.td, .int .i64 s.cm, .int .i64 s.rd, .bool s.ov]
theorem xc_flat (L : List SX) : FlatK 7 (L.map xc) := fun x hx => by
  obtain ⟨y, _, rfl⟩ := List.mem_map.1 hx
  refine ⟨rfl, fun v hv => ?_⟩
  unfold xc at hv
  simp only [List.mem_cons, List.not_mem_nil, or_false] at hv
  rcases hv with rfl | rfl | rfl | rfl | rfl | rfl | rfl <;> rfl
theorem infoXS : (Try.prog.info? 93).map (fun i => (i.zero, i.size, i.bytes)) = some (some (.agg #[.int .i64 0, .int .i64 0, .int .i64 0, .int .i64 0, .int .i64 0, .int .i64 0, .bool false]), 7, 56) := by kernel_rfl
def mcells (F : FS) (m : FX) (lv : Value) : Array Value :=
  #[.bool F.sv, .int .i64 F.cw, .int .i64 F.sw, .int .i64 F.tw, .int .i64 F.ow, .int .i64 F.pc, .int .i64 F.ps, .int .i64 F.pt, .int .i64 F.po, lv,
    .int .i64 (m.op false), .int .i64 (m.op true), .int .i64 (m.my false), .int .i64 (m.my true), .int .i64 m.cc, .int .i64 (m.tin false), .int .i64 (m.tin true), .int .i64 m.tc, .int .i64 m.rc]
/-- The model's credit in memory. -/
structure MR (w : World) (x base : Nat) (F : FS) (m : FX) (lv : Value) : Prop where
  bk : w.heap[x]? = some (.cells (mcells F m lv) 65 (0, 0))
  ow : GOwns 93 7 w base lv (m.L.map xc)
  lo : base ≤ x
def MRep (w : World) (x base : Nat) (F : FS) (m : FX) : Prop := ∃ lv, MR w x base F m lv
def mT (T : TypeId) : Bool := T == 65 || T == 93
abbrev MCh (base : Nat) (w w' : World) : Prop := ChT mT base w w'
section
variable {w w' : World} {x base : Nat} {F : FS} {m : FX} {lv : Value}
theorem MR.below (h : MR w x base F m lv) (hb : Below w.heap.size w w') : MR w' x base F m lv := ⟨(hb.block x (Array.getElem?_eq_some_iff.1 h.bk).1).trans h.bk, h.ow.below hb, h.lo⟩
theorem MR.drewN (h : MR w x base F m lv) (n : Nat) : MR (w.drewN n) x base F m lv := h.below (below_drewN (Below.refl _ _) n)
theorem MR.cell (h : MR w x base F m lv) (i : Nat) : w.cell? ⟨x, i, none⟩ = (mcells F m lv)[i]? := bk_cell h.bk i
theorem MR.free (h : MR w x base F m lv) (i : Nat) : w.frozen? ⟨x, i, none⟩ = false := bk_free h.bk i
theorem MR.form (h : MR w x base F m lv) : ∃ a c, lv = .slice a m.L.length c := by
  obtain ⟨a, c, e⟩ := h.ow.row.form
  exact ⟨a, c, by rw [e, List.length_map]⟩
/-- Where the streams lie. -/
theorem MR.at' (h : MR w x base F m lv) (h0 : 0 < m.L.length) : ∃ lb c, lv = .slice (some ⟨lb, 0, none⟩) m.L.length c ∧ lb ≠ x ∧ base ≤ lb ∧ (∃ cur, w.heap[lb]? = some (.cells cur 93 (0, 0))) ∧ ∀ j, j < m.L.length → ∀ f, f < 7 → w.cell? ⟨lb, j * 7 + f, none⟩ = (xc (m.L.getD j default))[f]? := by
  obtain ⟨zs, o, hz⟩ := h.ow
  have o' := o
  rcases o.2 with ⟨rfl, h1⟩ | ⟨g, cap, cur, rfl, hb, hg, hr⟩
  · rw [List.length_map] at h1; omega
  · refine ⟨g, cap, by rw [List.length_map], (bk_apart hg h.bk (by decide)), hb, ⟨cur, hg⟩, fun j hj f hf => ?_⟩
    have e0 := o'.cellAt (j * 7 + f) (jK_lt (by rw [List.length_map]; exact hj) hf)
    rw [e0, hz j (by rw [List.length_map]; exact hj) f hf]
    simp [List.getD, hj]
/-- A store into the model's own block. -/
theorem MR.setK (h : MR w x base F m lv) (i : Nat) (u : Value) {m' : FX} (hc : (mcells F m lv).setIfInBounds i u = mcells F m' lv) (e1 : m'.L = m.L) : MR (w.setCell ⟨x, i, none⟩ u) x base F m' lv := by
  refine ⟨by rw [bk_set h.bk i u, hc], ?_, h.lo⟩
  rw [e1]
  obtain ⟨zs, ⟨hl, h2⟩, hz⟩ := h.ow
  refine ⟨zs, ⟨hl, ?_⟩, hz⟩
  rcases h2 with h2 | ⟨g', cap, cur, rfl, hg, hh, r⟩
  · exact Or.inl h2
  · exact Or.inr ⟨g', cap, cur, rfl, hg, (bk_other (bk_apart hh h.bk (by decide)) i u).trans hh, r⟩
/-- A store into a stream. -/
theorem MR.setA (h : MR w x base F m lv) {id : Int} (hl : ixf m.L id < m.L.length) {lb : Nat} {c : Nat} (e : lv = .slice (some ⟨lb, 0, none⟩) m.L.length c) (i : Nat) (hi : i < 7) (u : Value) (y : SX) (hc : (xc (sxAt m.L id)).set i u = xc y) :
    MR (w.setCell ⟨lb, ixf m.L id * 7 + i, none⟩ u) x base F { m with L := sxSet m.L id y } lv := by
  subst e
  obtain ⟨zs, o, hz⟩ := h.ow
  rw [List.length_map] at o hz
  have hxl : ∀ s : SX, (xc s).length = 7 := fun s => rfl
  refine ⟨?_, ⟨zs.set (ixf m.L id * 7 + i) u, ?_, fun j hj f hf => ?_⟩, h.lo⟩
  · have hne : x ≠ lb := by
      obtain ⟨lb', c', e', hne, _⟩ := h.at' (by omega)
      simp only [Value.slice.injEq, Option.some.injEq, Addr.mk.injEq] at e'
      obtain ⟨⟨rfl, _⟩, _⟩ := e'
      exact hne.symm
    rw [bk_other hne]; exact h.bk
  · show (w.setCell _ u).ownsRow base _ 7 _ ((sxSet m.L id y).map xc).length _
    rw [List.length_map, set_len]
    exact (o.stored (ixf m.L id * 7 + i) u).1
  · replace hj : j < ((sxSet m.L id y).map xc).length := hj
    rw [List.length_map, set_len] at hj
    have e1 : ((sxSet m.L id y).map xc).getD j [] = xc ((sxSet m.L id y).getD j default) := map_at xc _ default j (by rw [set_len]; exact hj)
    have e2 := hz j hj f hf
    rw [map_at xc m.L default j hj] at e2
    show _ = (((sxSet m.L id y).map xc).getD j [])[f]?
    rw [e1]
    have hzl : zs.length = m.L.length * 7 := o.1
    by_cases hj2 : j = ixf m.L id
    · subst hj2
      have e3 : (sxSet m.L id y).getD (ixf m.L id) default = y := by simp [sxSet, List.getD, hl]
      rw [e3, ← hc]
      by_cases hf2 : f = i
      · subst hf2
        rw [List.getElem?_set_self (by rw [hzl]; exact jK_lt hl hf), List.getElem?_set_self (by rw [hxl]; exact hf)]
      · rw [List.getElem?_set_ne (by omega), e2, List.getElem?_set_ne (by omega)]; rfl
    · have e3 : (sxSet m.L id y).getD j default = m.L.getD j default := by simp [sxSet, List.getD, List.getElem?_set_ne (Ne.symm hj2)]
      rw [e3, List.getElem?_set_ne (by
        intro q
        rcases Nat.lt_or_gt_of_ne hj2 with h1 | h1
        · have : (j + 1) * 7 ≤ ixf m.L id * 7 := Nat.mul_le_mul_right 7 h1
          omega
        · have : (ixf m.L id + 1) * 7 ≤ j * 7 := Nat.mul_le_mul_right 7 h1
          omega), e2]
theorem MR.chK {W : World} (h : MR w x base F m lv) (c : MCh base W w) (i : Nat) (u : Value) : MCh base W (w.setCell ⟨x, i, none⟩ u) := c.set h.bk (by decide) h.lo i u
theorem MR.chA {W : World} (h : MR w x base F m lv) (c : MCh base W w) (h0 : 0 < m.L.length) {lb cc : Nat} (e : lv = .slice (some ⟨lb, 0, none⟩) m.L.length cc) (i : Nat) (u : Value) : MCh base W (w.setCell ⟨lb, i, none⟩ u) := by
  obtain ⟨lb', c', e', _, hb, ⟨cur, hg⟩, _⟩ := h.at' h0
  rw [e] at e'
  simp only [Value.slice.injEq, Option.some.injEq, Addr.mk.injEq] at e'
  obtain ⟨⟨rfl, _⟩, _⟩ := e'
  exact c.set hg (by decide) hb i u
end
def atV (L : List SX) (id : Int) : Int := if ixf L id < L.length then (ixf L id : Int) else -1
theorem ixf_before {L : List SX} {id : Int} {j : Nat} (h : j < ixf L id) (hj : j < L.length) : (L.getD j default).id ≠ id := by
  have := List.not_of_lt_findIdx h
  simpa [List.getD, hj] using this
theorem ixf_here {L : List SX} {id : Int} {j : Nat} (h : j ≤ ixf L id) (hj : j < L.length) (e : (L.getD j default).id = id) : ixf L id = j := by
  have h2 : ¬ j < ixf L id := fun q => ixf_before q hj e
  omega
theorem SXI.num {F : FS} {i : Nat} {m : FX} (h : FXI F i m) (hi : i ≤ 400) {j : Nat} (hj : j < m.L.length) : 0 ≤ (m.L.getD j default).id ∧ (m.L.getD j default).id < 4611686018427387904 := by
  have hm : (m.L.getD j default) ∈ m.L := by simp [List.getD, hj]
  obtain ⟨o, k, hk, ⟨k1, e⟩ | ⟨k1, e⟩⟩ := (h.mem (m.L.getD j default).id).1 (List.mem_map.2 ⟨_, hm, rfl⟩)
  · have a := h.op o
    have b := h.my o
    rw [e]; exact idn_bound hk (by omega)
  · have a := h.th o
    have b := h.tin o
    rw [e]; exact idn_bound hk (by omega)
set_option maxRecDepth 20000 in
set_option maxHeartbeats 1000000 in
theorem atM (x base : Nat) (F : FS) (m : FX) (lv : Value) (id : Int) (w : World) (h : MR w x base F m lv) (hl : m.L.length ≤ 4096) :
    Calls Try.prog 49 #[.pointer (some ⟨x, 0, none⟩), .int .i64 id] w fun e w' => e = .returned (.int .i64 (atV m.L id)) ∧ w' = w := by
  have c9 : w.cell? ⟨x, 9, none⟩ = some lv := h.cell 9
  obtain ⟨a, c, ev⟩ := h.form
  obtain ⟨n, en⟩ : ∃ n, n = m.L.length := ⟨_, rfl⟩
  have HH : Hid _ := And.intro h en
  rw [← en] at hl ev
  subst ev
  clear h en
  go_enter Try.func49, Try.ntmps49
  go_wp2
  go_loopg [5] n (fun q i wr => ∃ k : Nat, k ≤ n ∧ q = n - k ∧ i = .int .i64 (k : Int) ∧ k ≤ ixf m.L id ∧ wr = w)
  case atStart => exact ⟨0, by omega, by omega, rfl, by omega, rfl⟩
  case round =>
    obtain ⟨k, hk, hq, rfl, hx, rfl⟩ := hrel
    by_cases hlt : k < n
    · obtain ⟨lb, c', e, hne, _, _, hc⟩ := HH.out.1.at' (by have := HH.out.2; omega)
      simp only [Value.slice.injEq] at e
      obtain ⟨rfl, -, -⟩ := e
      have c0 : wr.cell? ⟨lb, k * 7, none⟩ = some (.int .i64 (m.L.getD k default).id) := hc k (by have := HH.out.2; omega) 0 (by omega)
      by_cases e : (m.L.getD k default).id = id
      · have ex := ixf_here hx (by have := HH.out.2; omega) e
        have ea : atV m.L id = (k : Int) := by unfold atV; rw [if_pos (by have := HH.out.2; omega), ex]
        rw [e] at c0
        have HE : Hid _ := ea
        clear hc hx ex ea e
        go_wp2
        go_ret
        exact ⟨by rw [HE.out]; rfl, rfl⟩
      · have hbe : ((m.L.getD k default).id == id) = false := by simpa using e
        have hx2 : k + 1 ≤ ixf m.L id := by
          rcases Nat.lt_or_ge k (ixf m.L id) with q | q
          · omega
          · have eq : ixf m.L id = k := by omega
            have hlt2 : ixf m.L id < m.L.length := by have := HH.out.2; omega
            have z := (ixf_some hlt2).1
            unfold sxAt at z
            rw [eq] at z
            exact absurd z e
        have HX : Hid _ := hx2
        generalize (m.L.getD k default).id = y at *
        clear hc hx hx2
        go_wp2
        go_roundg (n - (k + 1))
        case measure => omega
        case rel => exact ⟨k + 1, by omega, rfl, by go_num, HX.out, rfl⟩
    · obtain rfl : k = n := by omega
      have ea : atV m.L id = -1 := by unfold atV; rw [if_neg (by have := HH.out.2; omega)]
      have HE : Hid _ := ea
      clear hx ea
      go_wp2
      go_ret
      exact ⟨by rw [HE.out]; rfl, rfl⟩
theorem wayM (o : Bool) (w : World) : Calls Try.prog 44 #[.bool o] w fun e w' => e = .returned (.int .i64 (if o then 1 else 0)) ∧ w' = w := by
  cases o
  · go_enter Try.func44, Try.ntmps44
    go_wp2
    go_ret
    exact ⟨rfl, rfl⟩
  · go_enter Try.func44, Try.ntmps44
    go_wp2
    go_ret
    exact ⟨rfl, rfl⟩
end Go.Proofs.Ythjakbpcpfmbjaa

namespace Go.Proofs.Ythjakbpcpfmbjaa
open Go.RowKit
set_option linter.unusedVariables false
set_option linter.unusedSimpArgs false

theorem bdrM {n : Nat} {w w' : World} (h : Below n w w') : Below n w w'.drew := ⟨h.os, h.tape, h.output, h.size, h.block⟩
/-- Behind an append of a stream. -/
theorem MR.put {w w1 w' : World} {x base : Nat} {F : FS} {m : FX} {lv lv' : Value} (h : MR w x base F m lv) (hb : Below w.heap.size w w1) (s : SX) (o : GOwns 93 7 w' base lv' (m.L.map xc ++ [xc s])) (g : w1.grownBy w' lv.ownBlock) :
    MR (w'.setCell ⟨x, 9, none⟩ lv') x base F { m with L := m.L ++ [s] } lv' ∧ w'.cell? ⟨x, 9, none⟩ = some lv ∧ w'.frozen? ⟨x, 9, none⟩ = false ∧ (base ≤ w.heap.size → MCh base w (w'.setCell ⟨x, 9, none⟩ lv')) := by
  have h1 := h.below hb
  have hx : w'.heap[x]? = some (.cells (mcells F m lv) 65 (0, 0)) := by
    refine (g.block x (Array.getElem?_eq_some_iff.1 h1.bk).1 (fun e => ?_)).trans h1.bk
    obtain ⟨zs, ow, _⟩ := h1.ow
    rcases ow.2 with ⟨rfl, _⟩ | ⟨g', cap, cur, rfl, _, hh, _⟩
    · cases e
    · obtain rfl : x = g' := Option.some.inj e
      exact absurd rfl (bk_apart h1.bk hh (by decide))
  refine ⟨⟨by rw [bk_set hx 9 lv']; rfl, ?_, h.lo⟩, bk_cell hx 9, bk_free hx 9, fun hbase => ?_⟩
  · show GOwns _ 7 _ base lv' ((m.L ++ [s]).map xc)
    rw [List.map_append]
    obtain ⟨zs, ⟨hl, h2⟩, hz⟩ := o
    refine ⟨zs, ⟨hl, ?_⟩, hz⟩
    rcases h2 with h2 | ⟨g', cap, cur, rfl, hg, hh, r⟩
    · exact Or.inl h2
    · exact Or.inr ⟨g', cap, cur, rfl, hg, (bk_other (bk_apart hh hx (by decide)) 9 _).trans hh, r⟩
  · refine ChT.set (k := x) ?_ hx (by decide) h.lo 9 lv'
    refine (ChT.of_below hb).trans (ChT.of_grown g fun k hk => ?_)
    obtain ⟨zs, ow, _⟩ := h1.ow
    rcases ow.2 with ⟨rfl, _⟩ | ⟨g', cap, cur, rfl, hg, hh, _⟩
    · cases hk
    · obtain rfl : g' = k := Option.some.inj hk
      exact ⟨hg, fun c T fr e => by
        rw [hh] at e
        have e2 := Option.some.inj e
        injection e2 with _ e3
        rw [← e3]; decide⟩
set_option maxRecDepth 20000 in
set_option maxHeartbeats 4000000 in
theorem putM (x base : Nat) (F : FS) (m : FX) (lv : Value) (id : Int) (w : World) (h : MR w x base F m lv) (hl : m.L.length ≤ 4096) (hbase : base ≤ w.heap.size) :
    Calls Try.prog 46 #[.pointer (some ⟨x, 0, none⟩), .int .i64 id] w fun e w' => e = .returned (.tuple #[]) ∧ MRep w' x base F { m with L := m.L ++ [SX.new F id] } ∧ MCh base w w' := by
  have c9 : w.cell? ⟨x, 9, none⟩ = some lv := h.cell 9
  have c6 : w.cell? ⟨x, 6, none⟩ = some (.int .i64 F.ps) := h.cell 6
  have c2 : w.cell? ⟨x, 2, none⟩ = some (.int .i64 F.sw) := h.cell 2
  obtain ⟨a, c, ev⟩ := h.form
  have hB : Below w.heap.size w (w.alloc (.cells (xc (SX.new F id)).toArray 93)) := (Below.refl _ _).alloc (Nat.le_refl _) _
  have c9' : (w.alloc (.cells #[.int .i64 id, .int .i64 F.ps, .int .i64 0, .int .i64 F.sw, .int .i64 0, .int .i64 0, .bool false] 93)).drew.cell? ⟨x, 9, none⟩ = some lv := (h.below hB).cell 9
  have PU := fun (w' : World) (lv' : Value) (o : GOwns 93 7 w' base lv' (m.L.map xc ++ [xc (SX.new F id)])) (g : (w.alloc (.cells (xc (SX.new F id)).toArray 93)).drew.grownBy w' lv.ownBlock) => h.put (bdrM hB) (SX.new F id) o g
  have LF := lit_flat w (xc (SX.new F id)) 93
  have OW := h.ow.below hB
  have HH : Hid _ := And.intro PU (And.intro LF (And.intro OW (And.intro hbase hl)))
  obtain ⟨n, en⟩ : ∃ n, n = m.L.length := ⟨_, rfl⟩
  have HN : Hid _ := And.intro en ev
  rw [← en] at ev
  subst ev
  clear h hB PU LF OW hbase hl en
  go_enter Try.func46, Try.ntmps46
  go_wp2_with fail
  go_region_law (first
    | (refine step_append_flat rfl _ _ 62 93 Try.underlying62 _ 7 56 infoXS rfl (by decide) (by decide) rfl base (.slice a n c) (m.L.map xc) (xc_flat _) rfl HH.out.2.2.1 _ [xc (SX.new F id)] (xc_flat [SX.new F id]) rfl HH.out.2.1 (by have := HH.out.2.2.2.2; rw [List.length_map, List.length_singleton]; omega) (by have := HH.out.2.2.2.1; simp; omega) ?_
       intro v6 w6 o6 g6
       obtain ⟨p1, p2, p3, p4⟩ := HH.out.1 w6 v6 o6 g6
       obtain ⟨fa, fn, fc, ef, efn⟩ := slice_form o6
       have H6 : Hid _ := And.intro p1 (p4 HH.out.2.2.2.1)
       clear o6 g6 p1 p4 efn
       subst ef))
  all_goals
    go_wp2
    go_end0
    exact ⟨rfl, ⟨_, H6.out.1⟩, H6.out.2⟩
set_option maxRecDepth 20000 in
set_option maxHeartbeats 2000000 in
theorem sendsM (x base : Nat) (F : FS) (m : FX) (lv : Value) (i : Nat) (id : Int) (w : World) (h : MR w x base F m lv) (hI : FXI F i m) (hi : i ≤ 400) :
    Calls Try.prog 47 #[.pointer (some ⟨x, 0, none⟩), .int .i64 id] w fun e w' => e = .returned (.int .i64 (if canS F m.L id then (ixf m.L id : Int) else -1)) ∧ w' = w := by
  have hlen := hI.len_le hi
  have P := specIdParts id w
  have A := atM x base F m lv id w h (by omega)
  have c0 : w.cell? ⟨x, 0, none⟩ = some (.bool F.sv) := h.cell 0
  by_cases a0 : id < 0 ∨ 4611686018427387904 ≤ id
  · rw [show ptC id = 1 from if_pos a0] at P
    rw [if_neg (fun q : canS F m.L id => by have := hI.valid hi q.1; omega)]
    have HP : Hid _ := And.intro P True.intro
    clear P h hI A a0
    generalize ptS id = q0 at *
    generalize ptO id = q1 at *
    generalize ptP id = q2 at *
    go_enter Try.func47, Try.ntmps47
    go_wp2_with (first | (go_at_call 48; refine HP.out.1.mono ?_; rintro e wp ⟨rfl, hwp⟩; subst hwp))
    go_ret
    exact ⟨rfl, rfl⟩
  rw [show ptC id = 0 from if_neg a0] at P
  by_cases b0 : ptS id ≠ F.sv ∧ ptO id = true
  · rw [if_neg (fun q : canS F m.L id => by
      rcases q.2 with q | q
      · first | exact b0.1 q | exact q b0.1
      · rw [q] at b0; cases b0.2)]
    have hz : (ptS id == F.sv) = false := by simpa using b0.1
    have hz2 : (ptS id != F.sv) = true := by simpa using b0.1
    have hO := b0.2
    rw [hO] at P
    have HP : Hid _ := And.intro P True.intro
    clear P h hI A a0 b0 hO
    generalize ptS id = q0 at *
    generalize ptP id = q2 at *
    go_enter Try.func47, Try.ntmps47
    go_wp2_with (first | (go_at_call 48; refine HP.out.1.mono ?_; rintro e wp ⟨rfl, hwp⟩; subst hwp))
    go_ret
    exact ⟨rfl, rfl⟩
  · have ea : (if canS F m.L id then (ixf m.L id : Int) else -1) = atV m.L id := by
      unfold atV
      by_cases hl : ixf m.L id < m.L.length
      · rw [if_pos hl]
        refine if_pos ⟨hl, ?_⟩
        by_cases q : ptO id = true
        · left
          by_cases q2 : ptS id = F.sv
          · first | exact q2 | exact absurd ⟨q2, q⟩ b0
          · first | exact q2 | exact absurd ⟨q2, q⟩ b0
        · right; simpa using q
      · rw [if_neg hl]; exact if_neg (fun q => hl q.1)
    rw [ea]
    have HP : Hid _ := And.intro P A
    have hb : Hid _ := b0
    clear P h hI A a0 ea b0
    cases hS : ptS id <;> cases hO : ptO id <;> cases hV : F.sv <;> rw [hS, hO] at HP <;> rw [hV] at c0 <;> (first | (exfalso; refine hb.out ?_; rw [hS, hO, hV]; decide) | skip)
    all_goals
      clear hS hO hV hb
      generalize ptP id = q2 at *
      go_enter Try.func47, Try.ntmps47
      go_wp2_with (first | (go_at_call 48; refine HP.out.1.mono ?_; rintro e wp ⟨rfl, hwp⟩; subst hwp) | (go_at_call 49; refine HP.out.2.mono ?_; rintro e wa ⟨rfl, hwa⟩; subst hwa))
      go_ret
      exact ⟨rfl, rfl⟩
set_option maxRecDepth 20000 in
set_option maxHeartbeats 2000000 in
theorem getsM (x base : Nat) (F : FS) (m : FX) (lv : Value) (i : Nat) (id : Int) (w : World) (h : MR w x base F m lv) (hI : FXI F i m) (hi : i ≤ 400) :
    Calls Try.prog 50 #[.pointer (some ⟨x, 0, none⟩), .int .i64 id] w fun e w' => e = .returned (.int .i64 (if canG F m.L id then (ixf m.L id : Int) else -1)) ∧ w' = w := by
  have hlen := hI.len_le hi
  have P := specIdParts id w
  have A := atM x base F m lv id w h (by omega)
  have c0 : w.cell? ⟨x, 0, none⟩ = some (.bool F.sv) := h.cell 0
  by_cases a0 : id < 0 ∨ 4611686018427387904 ≤ id
  · rw [show ptC id = 1 from if_pos a0] at P
    rw [if_neg (fun q : canG F m.L id => by have := hI.valid hi q.1; omega)]
    have HP : Hid _ := And.intro P True.intro
    clear P h hI A a0
    generalize ptS id = q0 at *
    generalize ptO id = q1 at *
    generalize ptP id = q2 at *
    go_enter Try.func50, Try.ntmps50
    go_wp2_with (first | (go_at_call 48; refine HP.out.1.mono ?_; rintro e wp ⟨rfl, hwp⟩; subst hwp))
    go_ret
    exact ⟨rfl, rfl⟩
  rw [show ptC id = 0 from if_neg a0] at P
  by_cases b0 : ptS id = F.sv ∧ ptO id = true
  · rw [if_neg (fun q : canG F m.L id => by
      rcases q.2 with q | q
      · first | exact b0.1 q | exact q b0.1
      · rw [q] at b0; cases b0.2)]
    have hz : (ptS id == F.sv) = true := by simpa using b0.1
    have hz2 : (ptS id != F.sv) = false := by simpa using b0.1
    have hO := b0.2
    rw [hO] at P
    have HP : Hid _ := And.intro P True.intro
    clear P h hI A a0 b0 hO
    generalize ptS id = q0 at *
    generalize ptP id = q2 at *
    go_enter Try.func50, Try.ntmps50
    go_wp2_with (first | (go_at_call 48; refine HP.out.1.mono ?_; rintro e wp ⟨rfl, hwp⟩; subst hwp))
    go_ret
    exact ⟨rfl, rfl⟩
  · have ea : (if canG F m.L id then (ixf m.L id : Int) else -1) = atV m.L id := by
      unfold atV
      by_cases hl : ixf m.L id < m.L.length
      · rw [if_pos hl]
        refine if_pos ⟨hl, ?_⟩
        by_cases q : ptO id = true
        · left
          by_cases q2 : ptS id = F.sv
          · first | exact q2 | exact absurd ⟨q2, q⟩ b0
          · first | exact q2 | exact absurd ⟨q2, q⟩ b0
        · right; simpa using q
      · rw [if_neg hl]; exact if_neg (fun q => hl q.1)
    rw [ea]
    have HP : Hid _ := And.intro P A
    have hb : Hid _ := b0
    clear P h hI A a0 ea b0
    cases hS : ptS id <;> cases hO : ptO id <;> cases hV : F.sv <;> rw [hS, hO] at HP <;> rw [hV] at c0 <;> (first | (exfalso; refine hb.out ?_; rw [hS, hO, hV]; decide) | skip)
    all_goals
      clear hS hO hV hb
      generalize ptP id = q2 at *
      go_enter Try.func50, Try.ntmps50
      go_wp2_with (first | (go_at_call 48; refine HP.out.1.mono ?_; rintro e wp ⟨rfl, hwp⟩; subst hwp) | (go_at_call 49; refine HP.out.2.mono ?_; rintro e wa ⟨rfl, hwa⟩; subst hwa))
      go_ret
      exact ⟨rfl, rfl⟩
end Go.Proofs.Ythjakbpcpfmbjaa

namespace Go.Proofs.Ythjakbpcpfmbjaa
open Go.RowKit
set_option linter.unusedVariables false
set_option linter.unusedSimpArgs false

theorem MR.setO {w : World} {x base : Nat} {F : FS} {m : FX} {lv : Value} (h : MR w x base F m lv) {k : Nat} {c : Array Value} {fr : Nat × Nat} (hk : w.heap[k]? = some (.cells c 35 fr)) (i : Nat) (v : Value) : MR (w.setCell ⟨k, i, none⟩ v) x base F m lv := by
  refine ⟨(bk_other (bk_apart h.bk hk (by decide)) i v).trans h.bk, ?_, h.lo⟩
  obtain ⟨zs, ⟨hl, h2⟩, hz⟩ := h.ow
  refine ⟨zs, ⟨hl, ?_⟩, hz⟩
  rcases h2 with h2 | ⟨g', cap, cur, rfl, hg, hh, r⟩
  · exact Or.inl h2
  · exact Or.inr ⟨g', cap, cur, rfl, hg, (bk_other (bk_apart hh hk (by decide)) i v).trans hh, r⟩
theorem own_setM {T T' : TypeId} {K : Nat} {w : World} {base k i : Nat} {c : Array Value} {fr : Nat × Nat} {u v : Value} {L : List (List Value)} (h : GOwns T K w base v L) (hk : w.heap[k]? = some (.cells c T' fr)) (hT : T ≠ T') : GOwns T K (w.setCell ⟨k, i, none⟩ u) base v L := by
  obtain ⟨zs, ⟨hl, h2⟩, hz⟩ := h
  refine ⟨zs, ⟨hl, ?_⟩, hz⟩
  rcases h2 with h2 | ⟨g', cap, cur, rfl, hg, hh, r⟩
  · exact Or.inl h2
  · exact Or.inr ⟨g', cap, cur, rfl, hg, (bk_other (bk_apart hh hk hT) i u).trans hh, r⟩
/-- Amid an operation of the model: the credit, the observation at q, the frames. -/
structure OM (q x base : Nat) (w W : World) (F : FS) (m' : FX) (fv : Value) (fr : List (Int × Int × Int)) (r1 : Array Value) : Prop where
  P : MRep W x base F m'
  C : MCh base w W
  h1 : W.heap[q]? = some (.cells r1 35 (0, 0))
  f : GOwns 38 8 W w.heap.size fv (fr.map frC)
theorem OM.s {q x base : Nat} {w W : World} {F : FS} {m' : FX} {fv : Value} {fr : List (Int × Int × Int)} {r1 : Array Value} (hq : w.heap.size ≤ q) (h : OM q x base w W F m' fv fr r1) (o : Nat) (v : Value) : OM q x base w (W.setCell ⟨q, o, none⟩ v) F m' fv fr (r1.setIfInBounds o v) := by
  obtain ⟨lv, P⟩ := h.P
  exact ⟨⟨lv, P.setO h.h1 o v⟩, h.C.setN hq o v, bk_set h.h1 o v, own_setM h.f h.h1 (by decide)⟩
def MDo (w w' : World) (x base : Nat) (F : FS) (m' : FX) : Prop := MRep w' x base F m' ∧ MCh base w w'
theorem infoFObsM : (Try.prog.info? 35).map (·.size) = some 4 := by kernel_rfl
theorem framesM (w : World) (base : Nat) : GOwns 38 8 w base (.slice none 0 0) (([] : List (Int × Int × Int)).map frC) := ⟨[], World.ownsRow_nil _ _ _ _, fun j hj => by simp at hj⟩
/-- A new observation. -/
def obZ : Obj := .cells #[.int .i64 0, .int .i64 0, .int .i64 0, .slice none 0 0] 35
theorem oc_set (m : FX) (F : FS) (lv : Value) (o : Bool) (v : Int) : (mcells F m lv).setIfInBounds (10 + (if o then 1 else 0)) (.int .i64 v) = mcells F { m with op := updB m.op o v } lv := by cases o <;> rfl
theorem mc_set (m : FX) (F : FS) (lv : Value) (o : Bool) (v : Int) : (mcells F m lv).setIfInBounds (12 + (if o then 1 else 0)) (.int .i64 v) = mcells F { m with my := updB m.my o v } lv := by cases o <;> rfl
theorem tc_set (m : FX) (F : FS) (lv : Value) (o : Bool) (v : Int) : (mcells F m lv).setIfInBounds (15 + (if o then 1 else 0)) (.int .i64 v) = mcells F { m with tin := updB m.tin o v } lv := by cases o <;> rfl
theorem OM.new {x base : Nat} {w : World} {F : FS} {m : FX} (h : MRep w x base F m) (n : Nat) : OM w.heap.size x base w ((w.alloc obZ).drewN n) F m (.slice none 0 0) [] #[.int .i64 0, .int .i64 0, .int .i64 0, .slice none 0 0] := by
  obtain ⟨lv, P⟩ := h
  have hB : Below w.heap.size w ((w.alloc obZ).drewN n) := below_drewN ((Below.refl _ _).alloc (Nat.le_refl _) _) n
  exact ⟨⟨lv, P.below hB⟩, ChT.of_below hB, heap_alloc_new _ _, framesM _ _⟩
theorem mn3m (a b c : Int) (ts : Array TypeId) (t : TypeId) (w : World) : (Builtin.min_ ts t #[.int .i64 a, .int .i64 b, .int .i64 c]).run Try.prog w = .ok (.int .i64 (min (min a b) c)) w := by
  have e : ∀ x y : Int, (if y < x then y else x) = min x y := by
    intro x y
    rw [Int.min_def]
    split <;> split <;> omega
  simp [Builtin.min_, Builtin.min2, e]
theorem MR.grown {w w' : World} {x base q : Nat} {F : FS} {m : FX} {lv : Value} (h : MR w x base F m lv) (g : w.grownBy w' (some q)) {c : Array Value} {fr : Nat × Nat} (hq : w.heap[q]? = some (.cells c 35 fr)) : MR w' x base F m lv := by
  have hn : ∀ {k : Nat} {c' : Array Value} {T : TypeId} {fr' : Nat × Nat}, w.heap[k]? = some (.cells c' T fr') → T ≠ 35 → w'.heap[k]? = some (.cells c' T fr') := fun {k c' T fr'} hk hT => (g.block k (Array.getElem?_eq_some_iff.1 hk).1 (fun e => bk_apart hk hq hT (Option.some.inj e))).trans hk
  refine ⟨hn h.bk (by decide), ?_, h.lo⟩
  obtain ⟨zs, ⟨hl, h2⟩, hz⟩ := h.ow
  refine ⟨zs, ⟨hl, ?_⟩, hz⟩
  rcases h2 with h2 | ⟨g', cap, cur, rfl, hg, hh, r⟩
  · exact Or.inl h2
  · exact Or.inr ⟨g', cap, cur, rfl, hg, hn hh (by decide), r⟩
theorem OM.row {q x base : Nat} {w W : World} {F : FS} {m' : FX} {fv : Value} {fr : List (Int × Int × Int)} {r1 : Array Value} (h : OM q x base w W F m' fv fr r1) (hq : w.heap.size ≤ q) (cs : Array Value) : OM q x base w (W.setRow q cs) F m' fv fr cs := by
  obtain ⟨lv, P⟩ := h.P
  have g : W.grownBy (W.setRow q cs) (some q) := ⟨rfl, rfl, rfl, by simp [World.setRow], fun k hk hn => setRow_other W q k cs (fun e => hn (by rw [e]))⟩
  refine ⟨⟨lv, P.grown g h.h1⟩, ⟨h.C.os, h.C.tape, h.C.output, by rw [setRow_size]; exact h.C.size, fun i hi hs => (setRow_other W q i cs (by omega)).trans (h.C.block i hi hs)⟩, setRow_heap W q r1 cs _ _ h.h1, ?_⟩
  obtain ⟨zs, ⟨hl, h2⟩, hz⟩ := h.f
  refine ⟨zs, ⟨hl, ?_⟩, hz⟩
  rcases h2 with h2 | ⟨g', cap, cur, rfl, hg, hh, r⟩
  · exact Or.inl h2
  · exact Or.inr ⟨g', cap, cur, rfl, hg, (setRow_other W q g' cs (bk_apart hh h.h1 (by decide))).trans hh, r⟩
set_option maxRecDepth 20000 in
set_option maxHeartbeats 4000000 in
theorem openM (x base : Nat) (F : FS) (m : FX) (i : Nat) (o : Bool) (w : World) (h : MRep w x base F m) (hI : FXI F i m) (hi : i ≤ 400) (hbase : base ≤ w.heap.size) :
    Calls Try.prog 28 #[.pointer (some ⟨x, 0, none⟩), .bool o] w fun e w' => ∃ fv, e = .returned (.agg #[.int .i64 (fopen F m o).2.code, .int .i64 (fopen F m o).2.id, .int .i64 (fopen F m o).2.cnt, fv]) ∧ GOwns 38 8 w' w.heap.size fv ((fopen F m o).2.fr.map frC) ∧ MDo w w' x base F (fopen F m o).1 := by
  have TN := fun n => OM.new h n
  obtain ⟨lv, P⟩ := h
  have Wy := fun u => wayM o u
  obtain ⟨wz, ewz⟩ : ∃ z : Nat, z = if o then 1 else 0 := ⟨_, rfl⟩
  have ewi : (if o then (1 : Int) else 0) = (wz : Int) := by rw [ewz]; cases o <;> rfl
  rw [ewi] at Wy
  have hz : (wz : Int) < 2 ∧ wz < 2 := by rw [ewz]; cases o <;> simp
  have hB : Below w.heap.size w (w.alloc obZ) := (Below.refl _ _).alloc (Nat.le_refl _) _
  have PB := P.below hB
  have k10 : (w.alloc obZ).cell? ⟨x, 10 + wz, none⟩ = some (.int .i64 (m.op o)) := by rw [PB.cell, ewz]; cases o <;> rfl
  have k12 : (w.alloc obZ).cell? ⟨x, 12 + wz, none⟩ = some (.int .i64 (m.my o)) := by rw [PB.cell, ewz]; cases o <;> rfl
  have k0 : (w.alloc obZ).cell? ⟨x, 0, none⟩ = some (.bool F.sv) := PB.cell 0
  have f10 := PB.free (10 + wz)
  have ho := hI.op o
  have hm := hI.my o
  by_cases a : m.my o ≤ m.op o
  · have e : fopen F m o = (m, ⟨9, 0, 0, []⟩) := if_pos a
    rw [e]
    have HH : Hid _ := And.intro Wy (And.intro TN True.intro)
    unfold obZ at k10 k12 k0 f10
    clear e P Wy ewi ewz PB hB hI TN
    generalize m.my o = my at *
    generalize m.op o = op at *
    go_enter Try.func28, Try.ntmps28
    go_wp2_with (first | (go_at_call 44; refine (HH.out.1 _).mono ?_; rintro e w1 ⟨rfl, hw1⟩; subst hw1))
    go_quiet (fail)
    go_wp2
    have T := (OM.s (Nat.le_refl _) (OM.s (Nat.le_refl _) (OM.s (Nat.le_refl _) (OM.s (Nat.le_refl _) (HH.out.2.1 nq) 0 (.int .i64 9)) 1 (.int .i64 0)) 2 (.int .i64 0)) 3 (.slice none 0 0))
    try simp only [Exit.inBlock, Exit.then]
    refine bodyPost_ret (v := .agg #[.int .i64 9, .int .i64 0, .int .i64 0, .slice none 0 0]) ?_ rfl ?_
    · exact results_cell_row (t := 35) rfl _ _ (w.heap.size) _ (fr := (0, 0)) _ rfl T.h1 Try.underlying35 rfl infoFObsM
    · exact ⟨_, rfl, T.f, T.P, T.C⟩
  · have e : fopen F m o = ({ m with L := m.L ++ [SX.new F (idn F.sv o (m.op o))], op := updB m.op o (m.op o + 1) }, ⟨0, idn F.sv o (m.op o), 0, []⟩) := if_neg a
    rw [e]
    have hlen := hI.len_le hi
    have I := fun u => specIdOf F.sv o (m.op o) u
    rw [idV_idn ho.1 (by omega)] at I
    have R1 := fun (n : Nat) => (show MR (((w.alloc obZ).drewN n).setCell ⟨x, 10 + wz, none⟩ (.int .i64 (m.op o + 1))) x base F { m with op := updB m.op o (m.op o + 1) } lv from (PB.drewN n).setK (10 + wz) (.int .i64 (m.op o + 1)) (by rw [ewz]; exact oc_set m F lv o _) rfl)
    have C1 := fun (n : Nat) => (show MCh base w (((w.alloc obZ).drewN n).setCell ⟨x, 10 + wz, none⟩ (.int .i64 (m.op o + 1))) from (PB.drewN n).chK ((ChT.of_below hB).drewN n) (10 + wz) (.int .i64 (m.op o + 1)))
    have hid := idn_bound (s := F.sv) (o := o) ho.1 (show m.op o < 1152921504606846976 by omega)
    have PM' := fun (W : World) (hW : MR W x base F { m with op := updB m.op o (m.op o + 1) } lv) (hb : base ≤ W.heap.size) => putM x base F { m with op := updB m.op o (m.op o + 1) } lv (idn F.sv o (m.op o)) W hW (show m.L.length ≤ 4096 by omega) hb
    have K1 := fun (n : Nat) => (show (((w.alloc obZ).drewN n).setCell ⟨x, 10 + wz, none⟩ (.int .i64 (m.op o + 1))).heap[w.heap.size]? = some (.cells #[.int .i64 0, .int .i64 0, .int .i64 0, .slice none 0 0] 35 (0, 0)) from (bk_other (by have := (Array.getElem?_eq_some_iff.1 P.bk).1; omega) _ _).trans (heap_alloc_new _ _))
    have Z1 := fun (n : Nat) => (show base ≤ (((w.alloc obZ).drewN n).setCell ⟨x, 10 + wz, none⟩ (.int .i64 (m.op o + 1))).heap.size from Nat.le_trans hbase (by rw [setCell_sizeT]; exact hB.size))
    have HH : Hid _ := And.intro Wy (And.intro I (And.intro R1 (And.intro C1 (And.intro PM' (And.intro K1 Z1)))))
    unfold obZ at k10 k12 k0 f10 HH
    obtain ⟨id, eid⟩ : ∃ id, id = idn F.sv o (m.op o) := ⟨_, rfl⟩
    rw [← eid] at HH ⊢
    obtain ⟨my, emy⟩ : ∃ z, z = m.my o := ⟨_, rfl⟩
    obtain ⟨op, eop⟩ : ∃ z, z = m.op o := ⟨_, rfl⟩
    rw [← emy] at k12 a
    rw [← eop] at k10 a
    have hop : 0 ≤ op ∧ op < 1152921504606846976 := by omega
    have hda : decide (my ≤ op) = false := decide_eq_false a
    have HE : Hid _ := And.intro eop emy
    clear e P Wy ewi ewz PB hB hI I R1 C1 PM' K1 Z1 hid eid eop emy ho hm hlen TN
    rw [← HE.out.1] at HH
    go_enter Try.func28, Try.ntmps28
    go_wp2_with (first | (go_at_call 44; refine (HH.out.1 _).mono ?_; rintro e w1 ⟨rfl, hw1⟩; subst hw1))
    go_quiet (fail)
    go_wp2_with fail
    go_quiet (first | (go_at_call 45; exact (HH.out.2.1 _).mono fun _ _ h => ⟨h.1, _, h.2⟩))
    go_wp2_with fail
    go_region
    go_wp2_with (first | (go_at_call 46; refine (HH.out.2.2.2.2.1 _ (HH.out.2.2.1 _) (HH.out.2.2.2.2.2.2 _)).mono ?_; rintro e w1 ⟨rfl, hm, hc⟩; have C2 := (HH.out.2.2.2.1 _).trans hc; have K2 := hc.bk (HH.out.2.2.2.2.2.1 _) (by decide); have H2 : Hid _ := OM.mk (fv := .slice none 0 0) hm C2 K2 (framesM w1 _); clear hm hc C2 K2) | (refine wpList_store_row rfl 35 _ _ rfl w.heap.size #[.int .i64 0, .int .i64 id, .int .i64 0, .slice none 0 0] rfl rfl 35 _ H2.out.h1 infoFObsM rfl (by simp [Value.oneCell']) ?_))
    have T := H2.out.row (Nat.le_refl _) #[.int .i64 0, .int .i64 id, .int .i64 0, .slice none 0 0]
    try simp only [Exit.inBlock, Exit.then]
    refine bodyPost_ret (v := .agg #[.int .i64 0, .int .i64 id, .int .i64 0, .slice none 0 0]) ?_ rfl ?_
    · exact results_cell_row (t := 35) rfl _ _ (w.heap.size) _ (fr := (0, 0)) _ rfl T.h1 Try.underlying35 rfl infoFObsM
    · exact ⟨_, rfl, T.f, by rw [← HE.out.1]; exact T.P, T.C⟩
end Go.Proofs.Ythjakbpcpfmbjaa
