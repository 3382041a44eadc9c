import Derived.Test.YtcoakpmfappnlaaFxA
import Derived.Deep.RegionLaw
namespace Go.Proofs.Ytcoakpmfappnlaa
open Go.RowKit
set_option linter.unusedVariables false
set_option linter.unusedSimpArgs false

theorem bdrM {n : Nat} {w w' : World} (h : Below n w w') : Below n w w'.drew := ⟨h.os, h.tape, h.output, h.size, h.block⟩
/-- Behind an append of a stream. -/
theorem MR.put {w w1 w' : World} {x base : Nat} {F : FS} {m : FX} {lv lv' : Value} (h : MR w x base F m lv) (hb : Below w.heap.size w w1) (s : SX) (o : GOwns 94 7 w' base lv' (m.L.map xc ++ [xc s])) (g : w1.grownBy w' lv.ownBlock) :
    MR (w'.setCell ⟨x, 9, none⟩ lv') x base F { m with L := m.L ++ [s] } lv' ∧ w'.cell? ⟨x, 9, none⟩ = some lv ∧ w'.frozen? ⟨x, 9, none⟩ = false ∧ (base ≤ w.heap.size → MCh base w (w'.setCell ⟨x, 9, none⟩ lv')) := by
  have h1 := h.below hb
  have hx : w'.heap[x]? = some (.cells (mcells F m lv) 59 (0, 0)) := by
    refine (g.block x (Array.getElem?_eq_some_iff.1 h1.bk).1 (fun e => ?_)).trans h1.bk
    obtain ⟨zs, ow, _⟩ := h1.ow
    rcases ow.2 with ⟨rfl, _⟩ | ⟨g', cap, cur, rfl, _, hh, _⟩
    · cases e
    · obtain rfl : x = g' := Option.some.inj e
      exact absurd rfl (bk_apart h1.bk hh (by decide))
  refine ⟨⟨by rw [bk_set hx 9 lv']; rfl, ?_, h.lo⟩, bk_cell hx 9, bk_free hx 9, fun hbase => ?_⟩
  · show GOwns _ 7 _ base lv' ((m.L ++ [s]).map xc)
    rw [List.map_append]
    obtain ⟨zs, ⟨hl, h2⟩, hz⟩ := o
    refine ⟨zs, ⟨hl, ?_⟩, hz⟩
    rcases h2 with h2 | ⟨g', cap, cur, rfl, hg, hh, r⟩
    · exact Or.inl h2
    · exact Or.inr ⟨g', cap, cur, rfl, hg, (bk_other (bk_apart hh hx (by decide)) 9 _).trans hh, r⟩
  · refine ChT.set (k := x) ?_ hx (by decide) h.lo 9 lv'
    refine (ChT.of_below hb).trans (ChT.of_grown g fun k hk => ?_)
    obtain ⟨zs, ow, _⟩ := h1.ow
    rcases ow.2 with ⟨rfl, _⟩ | ⟨g', cap, cur, rfl, hg, hh, _⟩
    · cases hk
    · obtain rfl : g' = k := Option.some.inj hk
      exact ⟨hg, fun c T fr e => by
        rw [hh] at e
        have e2 := Option.some.inj e
        injection e2 with _ e3
        rw [← e3]; decide⟩
set_option maxRecDepth 20000 in
set_option maxHeartbeats 4000000 in
theorem putM (x base : Nat) (F : FS) (m : FX) (lv : Value) (id : Int) (w : World) (h : MR w x base F m lv) (hl : m.L.length ≤ 4096) (hbase : base ≤ w.heap.size) :
    Calls Try.prog 50 #[.pointer (some ⟨x, 0, none⟩), .int .i64 id] w fun e w' => e = .returned (.tuple #[]) ∧ MRep w' x base F { m with L := m.L ++ [SX.new F id] } ∧ MCh base w w' := by
  have c9 : w.cell? ⟨x, 9, none⟩ = some lv := h.cell 9
  have c6 : w.cell? ⟨x, 6, none⟩ = some (.int .i64 F.ps) := h.cell 6
  have c2 : w.cell? ⟨x, 2, none⟩ = some (.int .i64 F.sw) := h.cell 2
  obtain ⟨a, c, ev⟩ := h.form
  have hB : Below w.heap.size w (w.alloc (.cells (xc (SX.new F id)).toArray 94)) := (Below.refl _ _).alloc (Nat.le_refl _) _
  have c9' : (w.alloc (.cells #[.int .i64 id, .int .i64 F.ps, .int .i64 0, .int .i64 F.sw, .int .i64 0, .int .i64 0, .bool false] 94)).drew.cell? ⟨x, 9, none⟩ = some lv := (h.below hB).cell 9
  have PU := fun (w' : World) (lv' : Value) (o : GOwns 94 7 w' base lv' (m.L.map xc ++ [xc (SX.new F id)])) (g : (w.alloc (.cells (xc (SX.new F id)).toArray 94)).drew.grownBy w' lv.ownBlock) => h.put (bdrM hB) (SX.new F id) o g
  have LF := lit_flat w (xc (SX.new F id)) 94
  have OW := h.ow.below hB
  have HH : Hid _ := And.intro PU (And.intro LF (And.intro OW (And.intro hbase hl)))
  obtain ⟨n, en⟩ : ∃ n, n = m.L.length := ⟨_, rfl⟩
  have HN : Hid _ := And.intro en ev
  rw [← en] at ev
  subst ev
  clear h hB PU LF OW hbase hl en
  go_enter Try.func50, Try.ntmps50
  go_wp2_with fail
  go_region_law (first
    | (refine step_append_flat rfl _ _ 56 94 Try.underlying56 _ 7 56 infoXS rfl (by decide) (by decide) rfl base (.slice a n c) (m.L.map xc) (xc_flat _) rfl HH.out.2.2.1 _ [xc (SX.new F id)] (xc_flat [SX.new F id]) rfl HH.out.2.1 (by have := HH.out.2.2.2.2; rw [List.length_map, List.length_singleton]; omega) (by have := HH.out.2.2.2.1; simp; omega) ?_
       intro v6 w6 o6 g6
       obtain ⟨p1, p2, p3, p4⟩ := HH.out.1 w6 v6 o6 g6
       obtain ⟨fa, fn, fc, ef, efn⟩ := slice_form o6
       have H6 : Hid _ := And.intro p1 (p4 HH.out.2.2.2.1)
       clear o6 g6 p1 p4 efn
       subst ef))
  all_goals
    go_wp2
    go_end0
    exact ⟨rfl, ⟨_, H6.out.1⟩, H6.out.2⟩
set_option maxRecDepth 20000 in
set_option maxHeartbeats 2000000 in
theorem sendsM (x base : Nat) (F : FS) (m : FX) (lv : Value) (i : Nat) (id : Int) (w : World) (h : MR w x base F m lv) (hI : FXI F i m) (hi : i ≤ 400) :
    Calls Try.prog 51 #[.pointer (some ⟨x, 0, none⟩), .int .i64 id] w fun e w' => e = .returned (.int .i64 (if canS F m.L id then (ixf m.L id : Int) else -1)) ∧ w' = w := by
  have hlen := hI.len_le hi
  have P := specIdParts id w
  have A := atM x base F m lv id w h (by omega)
  have c0 : w.cell? ⟨x, 0, none⟩ = some (.bool F.sv) := h.cell 0
  by_cases a0 : id < 0 ∨ 4611686018427387904 ≤ id
  · rw [show ptC id = 1 from if_pos a0] at P
    rw [if_neg (fun q : canS F m.L id => by have := hI.valid hi q.1; omega)]
    have HP : Hid _ := And.intro P True.intro
    clear P h hI A a0
    generalize ptS id = q0 at *
    generalize ptO id = q1 at *
    generalize ptP id = q2 at *
    go_enter Try.func51, Try.ntmps51
    go_wp2_with (first | (go_at_call 52; refine HP.out.1.mono ?_; rintro e wp ⟨rfl, hwp⟩; subst hwp))
    go_ret
    exact ⟨rfl, rfl⟩
  rw [show ptC id = 0 from if_neg a0] at P
  by_cases b0 : ptS id ≠ F.sv ∧ ptO id = true
  · rw [if_neg (fun q : canS F m.L id => by
      rcases q.2 with q | q
      · first | exact b0.1 q | exact q b0.1
      · rw [q] at b0; cases b0.2)]
    have hz : (ptS id == F.sv) = false := by simpa using b0.1
    have hz2 : (ptS id != F.sv) = true := by simpa using b0.1
    have hO := b0.2
    rw [hO] at P
    have HP : Hid _ := And.intro P True.intro
    clear P h hI A a0 b0 hO
    generalize ptS id = q0 at *
    generalize ptP id = q2 at *
    go_enter Try.func51, Try.ntmps51
    go_wp2_with (first | (go_at_call 52; refine HP.out.1.mono ?_; rintro e wp ⟨rfl, hwp⟩; subst hwp))
    go_ret
    exact ⟨rfl, rfl⟩
  · have ea : (if canS F m.L id then (ixf m.L id : Int) else -1) = atV m.L id := by
      unfold atV
      by_cases hl : ixf m.L id < m.L.length
      · rw [if_pos hl]
        refine if_pos ⟨hl, ?_⟩
        by_cases q : ptO id = true
        · left
          by_cases q2 : ptS id = F.sv
          · first | exact q2 | exact absurd ⟨q2, q⟩ b0
          · first | exact q2 | exact absurd ⟨q2, q⟩ b0
        · right; simpa using q
      · rw [if_neg hl]; exact if_neg (fun q => hl q.1)
    rw [ea]
    have HP : Hid _ := And.intro P A
    have hb : Hid _ := b0
    clear P h hI A a0 ea b0
    cases hS : ptS id <;> cases hO : ptO id <;> cases hV : F.sv <;> rw [hS, hO] at HP <;> rw [hV] at c0 <;> (first | (exfalso; refine hb.out ?_; rw [hS, hO, hV]; decide) | skip)
    all_goals
      clear hS hO hV hb
      generalize ptP id = q2 at *
      go_enter Try.func51, Try.ntmps51
      go_wp2_with (first | (go_at_call 52; refine HP.out.1.mono ?_; rintro e wp ⟨rfl, hwp⟩; subst hwp) | (go_at_call 53; refine HP.out.2.mono ?_; rintro e wa ⟨rfl, hwa⟩; subst hwa))
      go_ret
      exact ⟨rfl, rfl⟩
set_option maxRecDepth 20000 in
set_option maxHeartbeats 2000000 in
theorem getsM (x base : Nat) (F : FS) (m : FX) (lv : Value) (i : Nat) (id : Int) (w : World) (h : MR w x base F m lv) (hI : FXI F i m) (hi : i ≤ 400) :
    Calls Try.prog 54 #[.pointer (some ⟨x, 0, none⟩), .int .i64 id] w fun e w' => e = .returned (.int .i64 (if canG F m.L id then (ixf m.L id : Int) else -1)) ∧ w' = w := by
  have hlen := hI.len_le hi
  have P := specIdParts id w
  have A := atM x base F m lv id w h (by omega)
  have c0 : w.cell? ⟨x, 0, none⟩ = some (.bool F.sv) := h.cell 0
  by_cases a0 : id < 0 ∨ 4611686018427387904 ≤ id
  · rw [show ptC id = 1 from if_pos a0] at P
    rw [if_neg (fun q : canG F m.L id => by have := hI.valid hi q.1; omega)]
    have HP : Hid _ := And.intro P True.intro
    clear P h hI A a0
    generalize ptS id = q0 at *
    generalize ptO id = q1 at *
    generalize ptP id = q2 at *
    go_enter Try.func54, Try.ntmps54
    go_wp2_with (first | (go_at_call 52; refine HP.out.1.mono ?_; rintro e wp ⟨rfl, hwp⟩; subst hwp))
    go_ret
    exact ⟨rfl, rfl⟩
  rw [show ptC id = 0 from if_neg a0] at P
  by_cases b0 : ptS id = F.sv ∧ ptO id = true
  · rw [if_neg (fun q : canG F m.L id => by
      rcases q.2 with q | q
      · first | exact b0.1 q | exact q b0.1
      · rw [q] at b0; cases b0.2)]
    have hz : (ptS id == F.sv) = true := by simpa using b0.1
    have hz2 : (ptS id != F.sv) = false := by simpa using b0.1
    have hO := b0.2
    rw [hO] at P
    have HP : Hid _ := And.intro P True.intro
    clear P h hI A a0 b0 hO
    generalize ptS id = q0 at *
    generalize ptP id = q2 at *
    go_enter Try.func54, Try.ntmps54
    go_wp2_with (first | (go_at_call 52; refine HP.out.1.mono ?_; rintro e wp ⟨rfl, hwp⟩; subst hwp))
    go_ret
    exact ⟨rfl, rfl⟩
  · have ea : (if canG F m.L id then (ixf m.L id : Int) else -1) = atV m.L id := by
      unfold atV
      by_cases hl : ixf m.L id < m.L.length
      · rw [if_pos hl]
        refine if_pos ⟨hl, ?_⟩
        by_cases q : ptO id = true
        · left
          by_cases q2 : ptS id = F.sv
          · first | exact q2 | exact absurd ⟨q2, q⟩ b0
          · first | exact q2 | exact absurd ⟨q2, q⟩ b0
        · right; simpa using q
      · rw [if_neg hl]; exact if_neg (fun q => hl q.1)
    rw [ea]
    have HP : Hid _ := And.intro P A
    have hb : Hid _ := b0
    clear P h hI A a0 ea b0
    cases hS : ptS id <;> cases hO : ptO id <;> cases hV : F.sv <;> rw [hS, hO] at HP <;> rw [hV] at c0 <;> (first | (exfalso; refine hb.out ?_; rw [hS, hO, hV]; decide) | skip)
    all_goals
      clear hS hO hV hb
      generalize ptP id = q2 at *
      go_enter Try.func54, Try.ntmps54
      go_wp2_with (first | (go_at_call 52; refine HP.out.1.mono ?_; rintro e wp ⟨rfl, hwp⟩; subst hwp) | (go_at_call 53; refine HP.out.2.mono ?_; rintro e wa ⟨rfl, hwa⟩; subst hwa))
      go_ret
      exact ⟨rfl, rfl⟩
end Go.Proofs.Ytcoakpmfappnlaa
