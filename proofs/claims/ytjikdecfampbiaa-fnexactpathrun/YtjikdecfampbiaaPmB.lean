import Derived.Test.YtjikdecfampbiaaPmA
import Derived.Test.YtjikdecfampbiaaPhJ
namespace Go.Proofs.Ytjikdecfampbiaa
open Go.RowKit
set_option linter.unusedVariables false
set_option linter.unusedSimpArgs false

set_option maxHeartbeats 400000 in
theorem cpyM (v : Value) (xs : List Int) (w : World) (hr : Row w .u8 v xs) (hl : xs.length ≤ 1048576) :
    Calls Try.prog 34 #[v] w fun e w' => ∃ r, e = .returned r ∧ w'.ownsRow w.heap.size 5 1 r xs.length (xs.map (Value.int .u8)) ∧ Below w.heap.size w w' := by
  have ba : Below w.heap.size w (w.alloc (.cells #[] 5)) := (Below.refl _ _).alloc (Nat.le_refl _) _
  have HN : Hid _ := And.intro (hr.below ba) (And.intro ba hl)
  clear hr ba hl
  go_enter Try.func34, Try.ntmps34
  go_wp2_with (at_builtin; refine wpList_append_row rfl _ _ rfl w.heap.size (.slice (some ⟨w.heap.size, 0, none⟩) 0 0) 0 [] rfl (World.ownsRow_lit w #[] 0 (Nat.le_refl _) (by decide) rfl) v xs rfl HN.out.1 (by have := HN.out.2.2; omega) (by simp) ?_; intro v' w2 hown2 hgrow)
  have R : w2.ownsRow w.heap.size 5 1 v' xs.length (xs.map (Value.int .u8)) := by simpa using hown2
  have B : Below w.heap.size w w2 := HN.out.2.1.grown hgrow (by simp) (by intro k hk; simp [Value.ownBlock] at hk; omega)
  have HR : Hid _ := And.intro R B
  clear R B hown2 hgrow
  go_wp2
  go_ret
  exact ⟨_, rfl, HR.out.1, HR.out.2⟩
/-- The books alone. -/
structure MC (w : World) (x c1 c2 c3 base : Nat) (m : PX) (wv : Value) : Prop where
  bk : w.heap[x]? = some (.cells #[.bool m.srv, .int .i64 (m.ad : Int), .slice (some ⟨c1, 0, none⟩) 256 256, .slice (some ⟨c2, 0, none⟩) 256 256, .slice (some ⟨c3, 0, none⟩) 256 256, wv] 48 (0, 0))
  r1 : Row256 w c1 3 (fun k => .int .i64 (m.cm k))
  r2 : Row256 w c2 3 (fun k => .int .i64 (m.st k))
  r3 : Row256 w c3 4 (fun k => .bool (m.va k))
  ne : c1 ≠ c2
  lo : base ≤ x ∧ base ≤ c1 ∧ base ≤ c2 ∧ base ≤ c3
section
variable {w w' : World} {x c1 c2 c3 base : Nat} {m : PX} {wv : Value} {Z : List ((List Int × Nat) × Value)}
theorem MB.books (h : MB w x c1 c2 c3 base m wv Z) : MC w x c1 c2 c3 base m wv := ⟨h.bk, h.r1, h.r2, h.r3, h.ne, h.lo⟩
theorem Row256.chg {c b' : Nat} {T T' : TypeId} {f : Nat → Value} {S : Nat → Prop} (h : Row256 w c T f) (hc : ChS S T' b' w w') (hn : ¬ S c) (ht : T ≠ T') : Row256 w' c T f := by
  obtain ⟨A, b, r⟩ := h
  exact ⟨A, hc.bk b (Or.inr ⟨hn, ht⟩), r⟩
theorem MC.chg (h : MC w x c1 c2 c3 base m wv) {b' : Nat} (hc : ChS (fun _ => False) 75 b' w w') : MC w' x c1 c2 c3 base m wv :=
  ⟨hc.bk h.bk (Or.inr ⟨fun e => e, by decide⟩), h.r1.chg hc (fun e => e) (by decide), h.r2.chg hc (fun e => e) (by decide), h.r3.chg hc (fun e => e) (by decide), h.ne, h.lo⟩
theorem MC.below (h : MC w x c1 c2 c3 base m wv) (hb : Below w.heap.size w w') : MC w' x c1 c2 c3 base m wv := h.chg (b' := 0) (ChS.of_below hb)
theorem MC.x12 (h : MC w x c1 c2 c3 base m wv) : x ≠ c1 ∧ x ≠ c2 ∧ x ≠ c3 := by
  have ty : ∀ (a b : Nat) (A B : Array Value) (S T : TypeId), w.heap[a]? = some (.cells A S (0, 0)) → w.heap[b]? = some (.cells B T (0, 0)) → S ≠ T → a ≠ b := fun a b A B S T ha hb hn e => by
    subst e
    rw [ha] at hb
    have e2 := Option.some.inj hb
    injection e2 with _ e3
    exact hn e3
  obtain ⟨A1, b1, _⟩ := h.r1
  obtain ⟨A2, b2, _⟩ := h.r2
  obtain ⟨A3, b3, _⟩ := h.r3
  exact ⟨ty _ _ _ _ _ _ h.bk b1 (by decide), ty _ _ _ _ _ _ h.bk b2 (by decide), ty _ _ _ _ _ _ h.bk b3 (by decide)⟩
theorem MC.c5 (h : MC w x c1 c2 c3 base m wv) : w.cell? ⟨x, 5, none⟩ = some wv ∧ w.cell? ⟨x, 1, none⟩ = some (.int .i64 (m.ad : Int)) ∧ w.frozen? ⟨x, 5, none⟩ = false ∧ x < w.heap.size :=
  ⟨(bk_cell h.bk 5).trans rfl, (bk_cell h.bk 1).trans rfl, bk_free h.bk 5, (Array.getElem?_eq_some_iff.1 h.bk).1⟩
/-- New challenges that wait. -/
theorem MC.setW (h : MC w x c1 c2 c3 base m wv) (wv' : Value) (ws : List (List Int × Nat)) (hz : Z.map (·.1) = ws) (ho : OffR 75 2 w base wv' (Z.map zrow)) (hw : ∀ z ∈ Z, w.ownsRow base 5 1 z.2 z.1.1.length (z.1.1.map (Value.int .u8))) :
    MB (w.setCell ⟨x, 5, none⟩ wv') x c1 c2 c3 base { m with ws := ws } wv' Z := by
  obtain ⟨n1, n2, n3⟩ := h.x12
  exact ⟨(bk_set h.bk 5 wv').trans rfl, h.r1.same (bk_other (Ne.symm n1) _ _), h.r2.same (bk_other (Ne.symm n2) _ _), h.r3.same (bk_other (Ne.symm n3) _ _), h.ne, h.lo, hz, ho.set h.bk (by decide), fun z hz' => own_setT (hw z hz') h.bk (by decide)⟩
end
theorem infoWait : (Try.prog.info? 75).map (fun i => (i.zero, i.size, i.bytes)) = some (some (.agg #[.int .i64 0, .slice none 0 0]), 2, 32) := by kernel_rfl
theorem zrow_flat (Z : List ((List Int × Nat) × Value)) (h : ∀ z ∈ Z, z.2.oneCell' = true) : FlatK 2 (Z.map zrow) := fun y hy => by
  obtain ⟨z, hz, rfl⟩ := List.mem_map.1 hy
  refine ⟨rfl, fun v hv => ?_⟩
  unfold zrow at hv
  rcases (by simpa using hv : v = .int .i64 (z.1.2 : Int) ∨ v = z.2) with rfl | rfl
  · rfl
  · exact h z hz
theorem own_one {w : World} {b e s n : Nat} {v : Value} {xs : List Value} (h : w.ownsRow b e s v n xs) : v.oneCell' = true := by
  rcases h.2 with ⟨rfl, _⟩ | ⟨g, cap, cur, rfl, _⟩ <;> rfl
def MDo (x c1 c2 c3 base : Nat) (w w' : World) (m' : PX) : Prop := MRp w' x c1 c2 c3 base m' ∧ ChS (KS x c1 c2 c3) 75 base w w'
theorem ChS.setK {x c1 c2 c3 base : Nat} {w w1 : World} (h : ChS (KS x c1 c2 c3) 75 base w w1) (k : Nat) (hk : KS x c1 c2 c3 k) (hb : base ≤ k) (o : Nat) (v : Value) : ChS (KS x c1 c2 c3) 75 base w (w1.setCell ⟨k, o, none⟩ v) := h.setS hk hb o v
set_option maxRecDepth 20000 in
set_option maxHeartbeats 4000000 in
theorem chalM (x c1 c2 c3 base : Nat) (m : PX) (v : Value) (D : List Int) (i : Nat) (w : World) (h : MRp w x c1 c2 c3 base m) (hI : PXI i m) (hr : Row w .u8 v D) (hl : D.length ≤ 1048576) (hbase : base ≤ w.heap.size) :
    Calls Try.prog 25 #[.pointer (some ⟨x, 0, none⟩), v] w fun e w' => e = .returned (.tuple #[]) ∧ MDo x c1 c2 c3 base w w' { m with ws := wpush m.ws (D, m.ad) } := by
  obtain ⟨wv, Z, h⟩ := h
  have M := h.books
  obtain ⟨d5, d1, f5, hx⟩ := M.c5
  obtain ⟨wa, wcp, ew⟩ := h.of.form
  have hzl : Z.length = m.ws.length := by rw [← h.zs, List.length_map]
  obtain ⟨wn, ewn⟩ : ∃ wn, wn = m.ws.length := ⟨_, rfl⟩
  rw [List.length_map, hzl, ← ewn] at ew
  have C := cpyM v D w.drew hr hl
  have hw4 : wn ≤ 4 := by have := hI.wl; omega
  have hO' := h.of
  rw [ew] at hO'
  obtain ⟨ao, cp, ev⟩ := hr.form
  obtain ⟨ad, ead⟩ : ∃ ad, ad = m.ad := ⟨_, rfl⟩
  rw [← ead] at d1
  have HC : Hid _ := And.intro C (And.intro h (And.intro M (And.intro ewn (And.intro hzl (And.intro hO' ead)))))
  rw [← ead]
  obtain ⟨dn, edn⟩ : ∃ dn, dn = D.length := ⟨_, rfl⟩
  rw [← edn] at ev
  clear C h M hO' hr hI ewn hzl hl ead edn
  subst ew ev
  go_enter Try.func25, Try.ntmps25
  go_wp2_with fail
  go_cut [] from 4 to 34 (fun wx => ∃ g5 q5 k5 r, MC wx x c1 c2 c3 base m (.slice (some ⟨g5, q5, none⟩) (wn + 1) k5) ∧ OffR 75 2 wx base (.slice (some ⟨g5, q5, none⟩) (wn + 1) k5) ((Z ++ [((D, m.ad), r)]).map zrow) ∧ (∀ z ∈ Z ++ [((D, m.ad), r)], wx.ownsRow base 5 1 z.2 z.1.1.length (z.1.1.map (Value.int .u8))) ∧ ChS (KS x c1 c2 c3) 75 base w wx ∧ wn + 1 ≤ k5)
  case first =>
    go_region_law (first
      | (go_simp; go_at_call 34; refine HC.out.1.mono ?_; rintro e w1 ⟨r, rfl, o1, b1⟩
         have b1' : Below w.heap.size w w1 := ⟨b1.os, b1.tape, b1.output, b1.size, b1.block⟩
         have M1 := HC.out.2.2.1.below b1'
         obtain ⟨p5, p1, g5', hx1⟩ := M1.c5
         rw [← HC.out.2.2.2.2.2.2] at p1
         obtain ⟨ra, rc, er⟩ := (row_of_owns o1).form
         obtain ⟨rn, ern⟩ : ∃ rn, rn = D.length := ⟨_, rfl⟩
         rw [← ern] at er
         have bA : Below w1.heap.size w1 (w1.alloc (.cells #[.int .i64 (ad : Int), .slice ra rn rc] 75)) := (Below.refl _ _).alloc (Nat.le_refl _) _
         have O1 := (HC.out.2.2.2.2.2.1.below b1').below bA
         have L1 : GRow 2 (w1.alloc (.cells #[.int .i64 (ad : Int), .slice ra rn rc] 75)) (.slice (some ⟨w1.heap.size, 0, none⟩) 1 1) [zrow ((D, ad), .slice ra rn rc)] := lit_flat w1 (zrow ((D, ad), .slice ra rn rc)) 75
         have hs1 : base ≤ (w1.alloc (.cells #[.int .i64 (ad : Int), .slice ra rn rc] 75)).heap.size := Nat.le_trans hbase (Nat.le_trans b1'.size bA.size)
         have H1 : Hid _ := And.intro O1 (And.intro L1 (And.intro hs1 (And.intro M1 (And.intro b1' (And.intro bA (And.intro o1 er))))))
         clear O1 L1 hs1 M1 b1' b1 bA o1 ern
         subst er)
      | (refine step_append_off rfl (.tmp 8) (.tmp 16) 46 75 Try.underlying46 _ 2 32 infoWait rfl (by decide) (by decide) rfl base (.slice wa wn wcp) (Z.map zrow) (zrow_flat _ (fun z hz => own_one (HC.out.2.1.ow z hz))) rfl H1.out.1 _ [zrow ((D, ad), .slice ra rn rc)] (zrow_flat [((D, ad), .slice ra rn rc)] (by simp; rfl)) rfl H1.out.2.1 (Nat.zero_lt_succ _) (by rw [List.length_map, HC.out.2.2.2.2.1, ← HC.out.2.2.2.1, List.length_singleton]; omega) H1.out.2.2.1 ?_
         intro v5 w5 o5 c5
         have M5 : MC w5 x c1 c2 c3 base m _ := (H1.out.2.2.2.1.below H1.out.2.2.2.2.2.1).chg (c5 (fun _ => False))
         have Q5 : ∀ z ∈ Z ++ [((D, ad), Value.slice ra rn rc)], w5.ownsRow base 5 1 z.2 z.1.1.length (z.1.1.map (Value.int .u8)) := fun z hz => by
           rcases List.mem_append.1 hz with hz | hz
           · exact (c5 (fun _ => False)).ownsC (owns_below (owns_below (HC.out.2.1.ow z hz) H1.out.2.2.2.2.1) H1.out.2.2.2.2.2.1) (by decide) (fun _ _ e => e)
           · obtain rfl : z = ((D, ad), Value.slice ra rn rc) := by simpa using hz
             have t := H1.out.2.2.2.2.2.2.1
             rw [H1.out.2.2.2.2.2.2.2] at t
             exact (c5 (fun _ => False)).ownsC (owns_below (owns_mono t hbase) H1.out.2.2.2.2.2.1) (by decide) (fun _ _ e => e)
         obtain ⟨g5, q5, k5, ev5, hk5, hm5⟩ := o5.full (by simp)
         obtain ⟨n5, en5⟩ : ∃ n5, n5 = (List.map zrow Z ++ [zrow ((D, ad), Value.slice ra rn rc)]).length := ⟨_, rfl⟩
         rw [← en5] at ev5 hk5
         have e5 : n5 = wn + 1 := by rw [en5, List.length_append, List.length_map, HC.out.2.2.2.2.1, ← HC.out.2.2.2.1]; rfl
         obtain ⟨y5, _, fz5, hx5⟩ := M5.c5
         have C5 : ChS (KS x c1 c2 c3) 75 base w w5 := ((ChS.of_below H1.out.2.2.2.2.1).trans (ChS.of_below H1.out.2.2.2.2.2.1)).trans (c5 _)
         have H5 : Hid _ := And.intro o5 (And.intro C5 (And.intro M5 (And.intro e5 Q5)))
         subst ev5
         clear o5 c5 M5 en5 e5 Q5 C5))
    all_goals
      go_wp2_with fail
      go_meet
      obtain ⟨o5, C5, M5, e5, Q5⟩ := H5.out
      rw [e5] at hk5 o5 ⊢
      have T := M5.setW (Z := Z ++ [((D, ad), Value.slice ra rn rc)]) (.slice (some ⟨g5, q5, none⟩) (wn + 1) k5) _ rfl (by rw [List.map_append]; exact o5) Q5
      have ead := HC.out.2.2.2.2.2.2
      rw [← ead]
      exact ⟨g5, q5, k5, .slice ra rn rc, ⟨T.bk, T.r1, T.r2, T.r3, T.ne, T.lo⟩, T.of, T.ow, C5.setK x (Or.inl rfl) HC.out.2.2.1.lo.1 5 _, hk5⟩
  case rest =>
  obtain ⟨g5, q5, k5, r, M6, O6, Q6, C6, hk5⟩ := hcut
  obtain ⟨y5, _, fz5, hx5⟩ := M6.c5
  have H6 : Hid _ := And.intro M6 (And.intro O6 (And.intro Q6 C6))
  have hlo := M6.lo.1
  clear M6 O6 Q6 C6 d5 d1 f5 hx
  obtain ⟨n6, e6⟩ : ∃ n6, n6 = wn + 1 := ⟨_, rfl⟩
  rw [← e6] at y5 H6 hk5
  have HE : Hid _ := e6
  by_cases h4 : wn < 4
  · have hn6 : ¬ (4 : Int) < (n6 : Int) := by omega
    clear e6
    go_wp2_with fail
    go_end0
    have hwn : m.ws.length < 4 := by have := HC.out.2.2.2.1; omega
    have ead := HC.out.2.2.2.2.2.2
    subst ead
    obtain ⟨M6, O6, Q6, C6⟩ := H6.out
    exact ⟨rfl, ⟨_, Z ++ [((D, m.ad), r)], ⟨M6.bk, M6.r1, M6.r2, M6.r3, M6.ne, M6.lo, by show (Z ++ [((D, m.ad), r)]).map (·.1) = wpush m.ws (D, m.ad); unfold wpush; rw [if_pos hwn, List.map_append, HC.out.2.1.zs]; rfl, O6, Q6⟩⟩, C6⟩
  · have hn6 : (4 : Int) < (n6 : Int) := by omega
    have hk0 : ¬ k5 = 1 := by omega
    have hk1 : (1 : Int) ≤ (n6 : Int) := by omega
    clear e6
    go_wp2_with fail
    go_end0
    have hwn : ¬ m.ws.length < 4 := by have := HC.out.2.2.2.1; omega
    have ead := HC.out.2.2.2.2.2.2
    subst ead
    obtain ⟨M6, O6, Q6, C6⟩ := H6.out
    obtain ⟨z0, Z0, ez⟩ : ∃ z0 Z0, Z = z0 :: Z0 := by
      cases hz : Z with
      | nil => have t1 := HC.out.2.2.2.2.1; have t2 := HC.out.2.2.2.1; rw [hz] at t1; simp at t1; omega
      | cons z0 Z0 => exact ⟨z0, Z0, rfl⟩
    rw [ez] at O6
    obtain ⟨g7, q7, ea, en, O7⟩ := OffR.tail (L := (Z0 ++ [((D, m.ad), r)]).map zrow) O6 (by have := HE.out; omega)
    simp only [Option.some.injEq, Addr.mk.injEq] at ea
    obtain ⟨rfl, rfl, -⟩ := ea
    have en' : n6 - 1 = ((Z0 ++ [((D, m.ad), r)]).map zrow).length := by rw [en]; omega
    rw [← en'] at O7
    have T := M6.setW (Z := Z0 ++ [((D, m.ad), r)]) (.slice (some ⟨g5, q5 + 2, none⟩) (n6 - 1) (k5 - 1)) (wpush m.ws (D, m.ad)) (by
      unfold wpush
      rw [if_neg hwn, ← HC.out.2.1.zs, ez]
      simp) O7 (fun z hz => Q6 z (by
        rw [ez]
        rcases List.mem_append.1 hz with q | q
        · exact List.mem_append.2 (Or.inl (List.mem_cons_of_mem _ q))
        · exact List.mem_append.2 (Or.inr q)))
    exact ⟨rfl, ⟨_, _, T⟩, C6.setK x (Or.inl rfl) hlo 5 _⟩
end Go.Proofs.Ytjikdecfampbiaa
