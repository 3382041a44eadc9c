import Derived.Test.YtcoakpmfappnlaaFj_C
import Derived.Test.YtcoakpmfappnlaaFj_E
import Derived.Deep.LoopGhost
import Derived.Test.YtcoakpmfappnlaaFj_D
import Derived.Test.YtcoakpmfappnlaaRows
import Derived.Test.YtcoakpmfappnlaaLiftFo
import Derived.Lib.LaidTab
namespace Go.Proofs.Ytcoakpmfappnlaa
open Go.RowKit
set_option linter.unusedVariables false
set_option linter.unusedSimpArgs false

/-- The answers so far, of one's own, each with its frames. -/
structure NOU (w : World) (base : Nat) (v : Value) (Y : List FO) (U : Nat → Value) : Prop where
  g : GOwns 43 4 w base v (zl FO.c Y U)
  f : ∀ j, j < Y.length → GOwns 87 8 w base (U j) ((Y.getD j default).fr.map frC)
  a : ∀ (i j : Nat), i < j → j < Y.length → ∀ k, (U j).ownBlock = some k → some k ≠ (U i).ownBlock
theorem NOU.owns {w : World} {base : Nat} {v : Value} {Y : List FO} {U : Nat → Value} (h : NOU w base v Y U) : NOwns w base v Y := ⟨U, h.g, h.f, h.a⟩
theorem foc_one (y : FO) {u : Value} (hu : u.oneCell' = true) : ∀ v ∈ y.c u, v.oneCell' = true := by
  intro v hv
  unfold FO.c at hv
  simp only [List.mem_cons, List.not_mem_nil, or_false] at hv
  rcases hv with rfl | rfl | rfl | rfl
  · rfl
  · rfl
  · rfl
  · exact hu
theorem NOU.flat {w : World} {base : Nat} {v : Value} {Y : List FO} {U : Nat → Value} (h : NOU w base v Y U) : FlatK 4 (zl FO.c Y U) := fun x hx => by
  unfold zl at hx
  obtain ⟨j, hj, rfl⟩ := List.mem_map.1 hx
  obtain ⟨a, n, c, e, _⟩ := slice_form (h.f j (List.mem_range.1 hj))
  exact ⟨rfl, foc_one _ (by rw [e]; rfl)⟩
theorem NOU.ch {w w' : World} {base b : Nat} {v : Value} {Y : List FO} {U : Nat → Value} (h : NOU w base v Y U) (hc : MCh b w w') : NOU w' base v Y U := ⟨GOwns.ch hc h.g (by decide), fun j hj => GOwns.ch hc (h.f j hj) (by decide), h.a⟩
theorem NOU.below {w w' : World} {base : Nat} {v : Value} {Y : List FO} {U : Nat → Value} (h : NOU w base v Y U) (hb : Below w.heap.size w w') : NOU w' base v Y U := ⟨h.g.below hb, fun j hj => (h.f j hj).below hb, h.a⟩
theorem zl_push (Y : List FO) (y : FO) (U : Nat → Value) (u : Value) : zl FO.c (Y ++ [y]) (fun j => if j = Y.length then u else U j) = zl FO.c Y U ++ [y.c u] := by
  unfold zl
  rw [List.length_append, List.length_singleton, List.range_succ, List.map_append, List.map_singleton]
  congr 1
  · apply List.map_congr_left
    intro j hj
    have hj := List.mem_range.1 hj
    dsimp only
    rw [if_neg (show ¬ j = Y.length by omega)]
    congr 1
    simp [List.getD, List.getElem?_append_left hj]
  · simp [List.getD]
theorem keepO {wr w2 w3 : World} {base : Nat} {ov fv : Value} {L : List (List Value)} {y : FO} (h : GOwns 43 4 w2 base ov L) (g3 : (w2.alloc (.cells (y.c fv).toArray 43)).grownBy w3 ov.ownBlock) :
    ∀ {k : Nat} {c : Array Value} {T : TypeId} {fr' : Nat × Nat}, w2.heap[k]? = some (.cells c T fr') → T ≠ 43 → w3.heap[k]? = some (.cells c T fr') := by
  intro k c T fr' hk hT
  have hB : Below w2.heap.size w2 (w2.alloc (.cells (y.c fv).toArray 43)) := (Below.refl _ _).alloc (Nat.le_refl _) _
  have hlt := (Array.getElem?_eq_some_iff.1 hk).1
  refine (g3.block k (Nat.lt_of_lt_of_le hlt hB.size) (fun e => ?_)).trans ((hB.block k hlt).trans hk)
  obtain ⟨zs, ow, _⟩ := h
  rcases ow.2 with ⟨rfl, _⟩ | ⟨g', cap, cur, rfl, _, hh, _⟩
  · cases e
  · obtain rfl : k = g' := Option.some.inj e
    exact bk_apart hk hh hT rfl
theorem keepG {w2 w3 : World} (keep : ∀ {k : Nat} {c : Array Value} {T : TypeId} {fr' : Nat × Nat}, w2.heap[k]? = some (.cells c T fr') → T ≠ 43 → w3.heap[k]? = some (.cells c T fr')) {T : TypeId} {K b : Nat} {v : Value} {L : List (List Value)} (hT : T ≠ 43) (h : GOwns T K w2 b v L) : GOwns T K w3 b v L := by
  obtain ⟨zs, ⟨hl, h2⟩, hz⟩ := h
  refine ⟨zs, ⟨hl, ?_⟩, hz⟩
  rcases h2 with h2 | ⟨g', cap, cur, rfl, hg, hh, r⟩
  · exact Or.inl h2
  · exact Or.inr ⟨g', cap, cur, rfl, hg, keep hh hT, r⟩
theorem NOU.push {wr w2 w3 : World} {base b0 : Nat} {ov v3 fv : Value} {Y : List FO} {U : Nat → Value} {y : FO} (h : NOU wr base ov Y U) (hc : MCh b0 wr w2) (hb : base ≤ wr.heap.size) (hf : GOwns 87 8 w2 wr.heap.size fv (y.fr.map frC)) (o3 : GOwns 43 4 w3 base v3 (zl FO.c Y U ++ [y.c fv])) (g3 : (w2.alloc (.cells (y.c fv).toArray 43)).grownBy w3 ov.ownBlock) :
    NOU w3 base v3 (Y ++ [y]) (fun j => if j = Y.length then fv else U j) := by
  have keep := @keepO wr w2 w3 base ov fv _ y (GOwns.ch hc h.g (by decide)) g3
  refine ⟨by rw [zl_push]; exact o3, fun j hj => ?_, fun i j hij hj k hk => ?_⟩
  · rw [List.length_append, List.length_singleton] at hj
    show GOwns _ 8 w3 base (if j = Y.length then fv else U j) _
    by_cases e : j = Y.length
    · rw [if_pos e, show (Y ++ [y]).getD j default = y by rw [e]; simp [List.getD]]
      exact (keepG keep (by decide) hf).mono hb
    · rw [if_neg e, show (Y ++ [y]).getD j default = Y.getD j default by simp [List.getD, List.getElem?_append_left (show j < Y.length by omega)]]
      exact keepG keep (by decide) (GOwns.ch hc (h.f j (by omega)) (by decide))
  · rw [List.length_append, List.length_singleton] at hj
    replace hk : (if j = Y.length then fv else U j).ownBlock = some k := hk
    show some k ≠ (if i = Y.length then fv else U i).ownBlock
    rw [if_neg (show ¬ i = Y.length by omega)]
    by_cases e : j = Y.length
    · rw [if_pos e] at hk
      intro q
      have b1 := (hf.bounds k hk).1
      have b2 := ((h.f i (by omega)).bounds k q.symm).2
      omega
    · rw [if_neg e] at hk
      exact h.a i j hij (by omega) k hk
theorem MRep.keep {w2 w3 : World} {x base : Nat} {F : FS} {m : FX} (h : MRep w2 x base F m) (keep : ∀ {k : Nat} {c : Array Value} {T : TypeId} {fr' : Nat × Nat}, w2.heap[k]? = some (.cells c T fr') → T ≠ 43 → w3.heap[k]? = some (.cells c T fr')) : MRep w3 x base F m := by
  obtain ⟨lv, P⟩ := h
  exact ⟨lv, keep P.bk (by decide), keepG keep (by decide) P.ow, P.lo⟩
theorem MRep.below {w w' : World} {x base : Nat} {F : FS} {m : FX} (h : MRep w x base F m) (hb : Below w.heap.size w w') : MRep w' x base F m := by
  obtain ⟨lv, P⟩ := h
  exact ⟨lv, P.below hb⟩
theorem MRep.mono {w : World} {x base b : Nat} {F : FS} {m : FX} (h : MRep w x base F m) (hb : b ≤ base) : MRep w x b F m := by
  obtain ⟨lv, P⟩ := h
  exact ⟨lv, P.bk, P.ow.mono hb, Nat.le_trans hb P.lo⟩
theorem NOU.zero {w : World} {base g : Nat} (hb : base ≤ w.heap.size) (hg : w.heap.size = g) : NOU (w.alloc (.cells #[] 43)) base (.slice (some ⟨g, 0, none⟩) 0 0) [] (fun _ => .slice none 0 0) := by
  subst hg
  exact ⟨GOwns.lit0 _ _ _ _ hb, fun j hj => by simp at hj, fun i j _ hj => by simp at hj⟩

set_option maxRecDepth 20000 in
set_option maxHeartbeats 4000000 in
theorem specFL (F : FS) (v : Value) (R : List SFlowOp) (w : World) (row : GRow 4 w v (SFlowOp.L R)) (hl : R.length ≤ 140737488355328) :
    Calls Try.prog 5 #[fsV F, v] w fun e w' => ∃ r, e = .returned (.tuple #[r, .int .i64 (flC F R)]) ∧ NOwns w' w.heap.size r (flY F R) ∧ Below w.heap.size w w' := by
  obtain ⟨ao, cp, ev⟩ := row.form
  rw [List.length_map] at ev
  have hB0 : Below w.heap.size w (w.alloc (.cells #[.bool F.sv, .int .i64 F.cw, .int .i64 F.sw, .int .i64 F.tw, .int .i64 F.ow, .int .i64 F.pc, .int .i64 F.ps, .int .i64 F.pt, .int .i64 F.po] 29)) := (Below.refl _ _).alloc (Nat.le_refl _) _
  by_cases a1 : 400 < R.length
  · have e1 : flC F R = 4 := if_pos a1
    have e2 : flY F R = [] := if_pos (Or.inl a1)
    rw [e1, e2, ev]
    unfold fsV
    have a1' : (400 : Int) < (R.length : Int) := by omega
    have HB : Hid _ := hB0
    generalize R.length = n at *
    clear row hB0
    go_enter Try.func5, Try.ntmps5
    go_wp2
    go_ret2
    exact ⟨_, rfl, (NOU.zero HB.out.size (by simp)).owns, HB.out.alloc HB.out.size _⟩
  have V := fun u => setupM F u
  have a1' : ¬ (400 : Int) < (R.length : Int) := by omega
  by_cases a2 : fsOK F = false
  · have e1 : flC F R = 1 := (if_neg a1).trans (if_pos a2)
    have e2 : flY F R = [] := if_pos (Or.inr a2)
    rw [e1, e2, ev]
    rw [a2] at V
    have HV : Hid _ := And.intro V hB0
    generalize R.length = n at *
    clear row e1 e2 hB0 V a2 ev
    unfold fsV at HV ⊢
    go_enter Try.func5, Try.ntmps5
    go_wp2_with (first | (go_at_call 14; refine (HV.out.1 _).mono ?_; rintro e w1 ⟨rfl, b1⟩; have H1 : Hid _ := HV.out.2.trans (b1.mono HV.out.2.size); clear b1))
    go_ret2
    exact ⟨_, rfl, (NOU.zero H1.out.size rfl).owns, H1.out.alloc H1.out.size _⟩
  have hF : fsOK F = true := by simpa using a2
  have e1 : flC F R = 0 := (if_neg a1).trans (if_neg a2)
  have e2 : flY F R = (List.range R.length).map (fobsAt F R) := if_neg (by intro q; rcases q with q | q; exact a1 q; exact a2 q)
  rw [e1, e2]
  rw [hF] at V
  have N := fun u => newM F u
  obtain ⟨n, en⟩ : ∃ n, n = R.length := ⟨_, rfl⟩
  have hn : n ≤ 400 := by omega
  rw [← en] at ev a1' ⊢
  have HH : Hid _ := And.intro V (And.intro N (And.intro hB0 (And.intro row (And.intro hF en))))
  clear row V N e1 e2 hB0 hF a2 a1 en hl
  subst ev
  unfold fsV at HH ⊢
  go_enter Try.func5, Try.ntmps5
  go_wp2_with fail
  go_at_call 14
  refine (HH.out.1 _).mono ?_
  rintro e w1 ⟨rfl, b1⟩
  have B1 := HH.out.2.2.1.trans (b1.mono HH.out.2.2.1.size)
  have k1 : w1.heap[w.heap.size]? = some (.cells #[.bool F.sv, .int .i64 F.cw, .int .i64 F.sw, .int .i64 F.tw, .int .i64 F.ow, .int .i64 F.pc, .int .i64 F.ps, .int .i64 F.pt, .int .i64 F.po] 29 (0, 0)) := (b1.block _ (by simp)).trans (heap_alloc_new _ _)
  have c0 : w1.cell? ⟨w.heap.size, 0, none⟩ = some (.bool F.sv) := (bk_cell k1 0).trans rfl
  have c1 : w1.cell? ⟨w.heap.size, 1, none⟩ = some (.int .i64 F.cw) := (bk_cell k1 1).trans rfl
  have c2 : w1.cell? ⟨w.heap.size, 2, none⟩ = some (.int .i64 F.sw) := (bk_cell k1 2).trans rfl
  have c3 : w1.cell? ⟨w.heap.size, 3, none⟩ = some (.int .i64 F.tw) := (bk_cell k1 3).trans rfl
  have c4 : w1.cell? ⟨w.heap.size, 4, none⟩ = some (.int .i64 F.ow) := (bk_cell k1 4).trans rfl
  have c5 : w1.cell? ⟨w.heap.size, 5, none⟩ = some (.int .i64 F.pc) := (bk_cell k1 5).trans rfl
  have c6 : w1.cell? ⟨w.heap.size, 6, none⟩ = some (.int .i64 F.ps) := (bk_cell k1 6).trans rfl
  have c7 : w1.cell? ⟨w.heap.size, 7, none⟩ = some (.int .i64 F.pt) := (bk_cell k1 7).trans rfl
  have c8 : w1.cell? ⟨w.heap.size, 8, none⟩ = some (.int .i64 F.po) := (bk_cell k1 8).trans rfl
  have H1 : Hid _ := B1
  clear b1 B1 k1
  go_wp2_with fail
  go_at_call 15
  refine (HH.out.2.1 _).mono ?_
  rintro e w2 ⟨x, rfl, P2, b2⟩
  have b2' := H1.out.trans (b2.mono H1.out.size)
  have bA : Below w2.heap.size w2 (w2.alloc (.cells #[] 43)) := (Below.refl _ _).alloc (Nat.le_refl _) _
  have H2 : Hid _ := And.intro ((P2.mono H1.out.size).below bA) (And.intro (b2'.trans (bA.mono b2'.size)) (NOU.zero b2'.size rfl))
  clear P2 b2 b2' bA c0 c1 c2 c3 c4 c5 c6 c7 c8
  go_wp2_with fail
  go_loopg [7, 8] n (fun q ov kv wr => ∃ k : Nat, k ≤ n ∧ q = n - k ∧ kv = .int .i64 (k : Int) ∧ (∃ U, NOU wr w.heap.size ov ((List.range k).map (fobsAt F R)) U) ∧ MRep wr x w.heap.size F (frunP F R k) ∧ Below w.heap.size w wr)
  case atStart => exact ⟨0, Nat.zero_le _, by omega, rfl, ⟨_, H2.out.2.2⟩, H2.out.1, H2.out.2.1⟩
  case round =>
    obtain ⟨k, hk, hq, rfl, ⟨U, G⟩, P, bw⟩ := hrel
    by_cases hlt : k < n
    · have e0 := HH.out.2.2.2.2.2
      obtain ⟨b, off, cap, ev, hbl, hc⟩ := HH.out.2.2.2.1.at' (by rw [List.length_map]; omega)
      simp only [Value.slice.injEq] at ev
      obtain ⟨rfl, em2, rfl⟩ := ev
      clear em2
      have hck := hc k (by rw [List.length_map]; omega)
      rw [SFlowOp.at R k (by omega)] at hck
      obtain ⟨o, eo⟩ : ∃ o, o = R.getD k default := ⟨_, rfl⟩
      rw [← eo] at hck
      have c0 : wr.cell? ⟨b, off + k * 4, none⟩ = some (.int .i64 o.f0) := (bw.cell (p := ⟨b, off + (k * 4 + 0), none⟩) hbl).trans (hck 0 (by omega))
      have c1 : wr.cell? ⟨b, off + k * 4 + 1, none⟩ = some (.int .i64 o.f1) := (bw.cell (p := ⟨b, off + (k * 4 + 1), none⟩) hbl).trans (hck 1 (by omega))
      have c2 : wr.cell? ⟨b, off + k * 4 + 2, none⟩ = some (.int .i64 o.f2) := (bw.cell (p := ⟨b, off + (k * 4 + 2), none⟩) hbl).trans (hck 2 (by omega))
      have c3 : wr.cell? ⟨b, off + k * 4 + 3, none⟩ = some (.bool o.f3) := (bw.cell (p := ⟨b, off + (k * 4 + 3), none⟩) hbl).trans (hck 3 (by omega))
      have C := doM x w.heap.size F HH.out.2.2.2.2.1 (frunP F R k) k o.f1 o.f2 o.f3 wr P (frunP_inv HH.out.2.2.2.2.1 R k (by omega)) (by omega) bw.size o.f0
      obtain ⟨S, eS⟩ : ∃ S, S = fstep F (frunP F R k) o.f0 o.f1 o.f2 o.f3 := ⟨_, rfl⟩
      rw [← eS] at C
      have eP : frunP F R (k + 1) = S.1 := by rw [eS, eo]; rfl
      have eO : (List.range (k + 1)).map (fobsAt F R) = (List.range k).map (fobsAt F R) ++ [S.2] := by
        rw [List.range_succ, List.map_append, List.map_singleton]
        congr 2
        rw [eS, eo]; rfl
      obtain ⟨la, lc, el⟩ := G.g.row.form
      obtain ⟨ln, eln⟩ : ∃ ln, ln = (zl FO.c ((List.range k).map (fobsAt F R)) U).length := ⟨_, rfl⟩
      rw [← eln] at el
      have hln : ln ≤ 400 := by rw [eln, zl_length, List.length_map, List.length_range]; omega
      subst el
      have H4 : Hid _ := And.intro C (And.intro eP (And.intro eO (And.intro G (And.intro bw eln))))
      clear C hck hc eo e0 eS eP eO P G bw eln hbl
      obtain ⟨x0, x1, x2, x3⟩ := o
      dsimp only at *
      go_wp2_with fail
      go_at_call 16
      refine H4.out.1.mono ?_
      rintro e w3 ⟨fv, rfl, G3, P3, C3⟩
      have hs3 := C3.size
      have hsw := H4.out.2.2.2.2.1.size
      obtain ⟨fa, fn, fc, ef, efn⟩ := slice_form G3
      clear efn
      have GA : GOwns 43 4 (w3.alloc (.cells (S.2.c fv).toArray 43)) w.heap.size (.slice la ln lc) (zl FO.c ((List.range k).map (fobsAt F R)) U) := (GOwns.ch C3 H4.out.2.2.2.1.g (by decide)).below ((Below.refl _ _).alloc (Nat.le_refl _) _)
      have FA := H4.out.2.2.2.1.flat
      have FB : FlatK 4 [S.2.c fv] := fun y hy => by
        rw [List.mem_singleton.1 hy]
        exact ⟨rfl, foc_one _ (by rw [ef]; rfl)⟩
      have PU := fun (v4 : Value) (w4 : World) (o4 : GOwns 43 4 w4 w.heap.size v4 (zl FO.c ((List.range k).map (fobsAt F R)) U ++ [S.2.c fv])) (g4 : (w3.alloc (.cells (S.2.c fv).toArray 43)).grownBy w4 (Value.slice la ln lc).ownBlock) => And.intro (NOU.push H4.out.2.2.2.1 C3 H4.out.2.2.2.2.1.size G3 o4 g4) (And.intro (P3.keep (@keepO wr w3 w4 w.heap.size (.slice la ln lc) fv _ S.2 (GOwns.ch C3 H4.out.2.2.2.1.g (by decide)) g4)) ((show Below w.heap.size w (w3.alloc (.cells (S.2.c fv).toArray 43)) from (H4.out.2.2.2.2.1.trans (C3.toBelow H4.out.2.2.2.2.1.size)).alloc (by omega) _).grown g4 (by have := H4.out.2.2.2.2.1.size; simp; omega) (fun k hk => (GA.bounds k hk).1)))
      have H5 : Hid _ := And.intro GA (And.intro FA (And.intro FB PU))
      clear G3 P3 C3 GA FA FB PU
      subst ef
      go_wp2_with (first | (at_builtin; refine wpList_append_flat rfl (.tmp 26) (.tmp 33) 26 43 Try.underlying26 _ 4 48 infoFO rfl (by decide) (by decide) rfl w.heap.size (.slice la ln lc) _ H5.out.2.1 rfl H5.out.1 _ _ H5.out.2.2.1 rfl (lit_flatG _ (S.2.c (.slice fa fn fc)) 43 _ rfl) (by rw [← H4.out.2.2.2.2.2]; simp <;> omega) (by simp <;> omega) ?_; intro v6 w6 o6 g6; obtain ⟨p1, p2, p3⟩ := H5.out.2.2.2 v6 w6 o6 g6; obtain ⟨ga, gn, gc, ef, efn⟩ := slice_form o6; have H6 : Hid _ := And.intro p1 (And.intro p2 p3); clear o6 g6 p1 p2 p3 efn; subst ef))
      go_roundg (n - (k + 1))
      case measure => omega
      case rel => exact ⟨k + 1, by omega, rfl, by go_num, ⟨_, by rw [H4.out.2.2.1]; exact H6.out.1⟩, by rw [H4.out.2.1]; exact H6.out.2.1, H6.out.2.2⟩
    · obtain rfl : k = n := by omega
      have HG : Hid _ := And.intro G bw
      clear G P bw
      go_wp2
      go_ret2
      exact ⟨_, rfl, HG.out.1.owns, HG.out.2⟩
end Go.Proofs.Ytcoakpmfappnlaa

namespace Go.Proofs.Ytcoakpmfappnlaa
open Go.RowKit

theorem fnExactFlowRun_walk (F : FS) (v : Value) (R : List SFlowOp) (sm : R.length ≤ maxLen) (hof : ∀ j, (Lit.int .i64 (R.getD j default).f1).wf = true) (W : World) (row : GRow 4 W v (SFlowOp.L R)) :
    Calls Try.prog 3 #[fsV F, v] W fun e w' => e = .returned (.bool true) ∧ Below W.heap.size W w' :=
  fnExactFlowRun_law F v R sm hof W row (fun v w r hl => implFL F v R w r hof (by omega)) (fun v w r hl => specFL F v R w r (by omega))
end Go.Proofs.Ytcoakpmfappnlaa

namespace Go.Proofs.Ytcoakpmfappnlaa.fnExactFlowRun
open Go.ChangeShapes Go.WideShapes Go.ChangeAt Go.RowKit
set_option linter.unusedVariables false

theorem own : ownKnob Try.prog.godebug = none := by kernel_rfl
theorem laidOut : laidOutB Try.prog = true := by kernel_rfl
set_option maxRecDepth 20000 in
theorem contract (H : Type) (enc : TypeId × Value → H) (W : World) (base : Nat) (args : Array Value) (ds gs : List (DataW H)) (before : List MemPlace)
    (hval : ∀ (j : Nat) t v, Try.f3.params[j]? = some t → args[j]? = some v → Value.okWide Try.prog W .any base t v)
    (hW : DataW.Whole enc Try.prog Try.f3.params.toList Rows.fnExactFlowRunSpec.vars false W args.toList ds gs before) :
    Calls Try.prog 3 args W fun e W' => ∃ v, e = .returned v ∧ Rows.fnExactFlowRunSpec.post enc Try.prog Try.f3 false true false false W args v W' := by
  have hW' := hW
  obtain ⟨p, q, hA0, hV, rfl, hfz, hnd⟩ := hW
  have hA : DataW.TrodAll enc Try.prog W 0 (fun _ => true) true Try.f3.params.toList args.toList ds p := hA0
  rw [Try.params3] at hA hval
  obtain ⟨v0, vs0, d0, ds0, p0, q0, hargs, rfl, rfl, h0, r0⟩ := trodAll_cons hA
  obtain ⟨v1, vs1, d1, ds1, p1, q1, rfl, rfl, rfl, h1, r1⟩ := trodAll_cons r0
  obtain ⟨rfl, rfl, rfl⟩ := trodAll_nil r1
  obtain rfl : args = #[v0, v1] := by cases args; simp_all
  obtain ⟨rfl, rfl⟩ := trodVars_none hV
  obtain ⟨k0, rfl⟩ := open_fset Try.underlying23 (by kernel_rfl) (by kernel_rfl) ⟨rfl, rfl, rfl, rfl, rfl, rfl, rfl, rfl, rfl⟩ Try.underlying4 Try.underlying3 (hval 0 23 v0 rfl rfl) h0
  obtain ⟨k1, row1, sm1, wf1⟩ := open_fops Try.underlying24 Try.underlying48 (by kernel_rfl) (by kernel_rfl) ⟨rfl, rfl, rfl, rfl⟩ Try.underlying4 Try.underlying3 (hval 1 24 v1 rfl rfl) h1
  refine (fnExactFlowRun_walk k0 v1 k1 sm1 wf1 W row1).mono fun e W' ⟨he, hb⟩ => ?_
  subst he
  exact ⟨_, rfl, law_post laidOut (by kernel_rfl) (by kernel_rfl) (by kernel_rfl) Try.underlying4 hW' rfl hb⟩

theorem laid_met (os : Os) : laidMet Try.prog Rows.fnExactFlowRunRow.laid ((World.holding Try.prog os ⟨#[], #[], []⟩).forCall (fun _ _ => 0) ⟨#[], #[.agg #[.bool false, .int .i64 0, .int .i64 0, .int .i64 0, .int .i64 0, .int .i64 0, .int .i64 0, .int .i64 0, .int .i64 0], .slice none 0 0], []⟩).memory :=
  laidMet_of_run' 8 (by kernel_rfl) (by kernel_rfl)
theorem reads (os : Os) {H : Type} (enc : TypeId × Value → H) : ∃ places, DataW.whole enc Try.prog ((World.holding Try.prog os ⟨#[], #[], []⟩).forCall (fun _ _ => 0) ⟨#[], #[.agg #[.bool false, .int .i64 0, .int .i64 0, .int .i64 0, .int .i64 0, .int .i64 0, .int .i64 0, .int .i64 0, .int .i64 0], .slice none 0 0], []⟩).memory Try.f3.params.toList Rows.fnExactFlowRunSpec.vars false #[(.agg #[.bool false, .int .i64 0, .int .i64 0, .int .i64 0, .int .i64 0, .int .i64 0, .int .i64 0, .int .i64 0, .int .i64 0] : Value), .slice none 0 0].toList 8 = some ([.agg [.lit (.bool false), .lit (.int .i64 0), .lit (.int .i64 0), .lit (.int .i64 0), .lit (.int .i64 0), .lit (.int .i64 0), .lit (.int .i64 0), .lit (.int .i64 0), .lit (.int .i64 0)], .nil], [], places) :=
  ⟨[], by kernel_rfl⟩

set_option maxRecDepth 100000 in
theorem lifted (os : Os) (started : os.Started) (H : Type) (enc : TypeId × Value → H) (F : Stop.Interp) :
    ReturnsInHanded {} Try.checked os 3 .any ((OpenSpec.ofChange Rows.fnExactFlowRunSpec).preRow enc Try.prog Try.f3 Rows.fnExactFlowRunRow.domain false Rows.fnExactFlowRunRow.laid) (((OpenSpec.ofChange Rows.fnExactFlowRunSpec).at F).post enc Try.prog Try.f3 false true false false) := by
  obtain ⟨places, hx⟩ := reads os enc
  refine returnsInHanded_of_row (C := Try.checked) (s := OpenSpec.ofChange Rows.fnExactFlowRunSpec) own started (by kernel_rfl) Try.func3
    (witness_row_at (enc := enc) (C := Try.checked) false (World.holding Try.prog os ⟨#[], #[], []⟩) #[.agg #[.bool false, .int .i64 0, .int .i64 0, .int .i64 0, .int .i64 0, .int .i64 0, .int .i64 0, .int .i64 0, .int .i64 0], .slice none 0 0] rfl (by kernel_rfl) (by kernel_rfl) (by kernel_rfl)
      (OpenSpec.preRow_of_cond 8 hx (by kernel_rfl) (fun k hk => by cases hk) (by kernel_rfl) (laid_met os))) ?_
  intro W base args ds gs before hval hW _ _ _ hL _ _
  exact contract H enc W base args ds gs before hval hW

theorem said : Rows.FnExactFlowRunSaid :=
  OpenClaim.holds_of_cond 3 Try.f3 rfl rfl rfl rfl rfl rfl rfl ⟨rfl, rfl, rfl, rfl, rfl⟩ rfl rfl rfl rfl rfl (by kernel_rfl) Try.func3 (by kernel_rfl)
    (of_decide_eq_true (by kernel_rfl)) (by unfold Func.isWrapper; first | (rw [if_pos (by decide +kernel)]; kernel_rfl) | (rw [if_neg (by decide +kernel)]; exact ⟨rfl, rfl⟩))
    (fun os started H enc _ F => by rw [OpenClaim.pre_eq_preRow]; exact lifted os started H enc F)

end Go.Proofs.Ytcoakpmfappnlaa.fnExactFlowRun

namespace Go.Proofs.Ytcoakpmfappnlaa
theorem fnExactFlowRun_holds : Rows.FnExactFlowRunSaid := fnExactFlowRun.said
#print axioms fnExactFlowRun_holds
end Go.Proofs.Ytcoakpmfappnlaa
