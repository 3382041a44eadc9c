import Derived.Test.YtdoglkjhmaiknaaPqF
import Derived.Test.YtdoglkjhmaiknaaPqG
import Derived.Test.YtdoglkjhmaiknaaPqL
import Derived.Laws.Append
import Derived.Lib.SlBytesConst
import Derived.Deep.LoopGhost
import Derived.Deep.RegionLaw
namespace Go.Proofs.Ytdoglkjhmaiknaa
open Go.RowKit
set_option linter.unusedVariables false
set_option linter.unusedSimpArgs false

set_option maxHeartbeats 400000 in
theorem cpyM (v : Value) (xs : List Int) (w : World) (hr : Row w .u8 v xs) (hl : xs.length ≤ 1048576) :
    Calls Try.prog 27 #[v] w fun e w' => ∃ r, e = .returned r ∧ w'.ownsRow w.heap.size 5 1 r xs.length (xs.map (Value.int .u8)) ∧ Below w.heap.size w w' := by
  have ba : Below w.heap.size w (w.alloc (.cells #[] 5)) := (Below.refl _ _).alloc (Nat.le_refl _) _
  have HN : Hid _ := And.intro (hr.below ba) (And.intro ba hl)
  clear hr ba hl
  go_enter Try.func27, Try.ntmps27
  go_wp2_with (at_builtin; refine wpList_append_row rfl _ _ rfl w.heap.size (.slice (some ⟨w.heap.size, 0, none⟩) 0 0) 0 [] rfl (World.ownsRow_lit w #[] 0 (Nat.le_refl _) (by decide) rfl) v xs rfl HN.out.1 (by have := HN.out.2.2; omega) (by simp) ?_; intro v' w2 hown2 hgrow)
  have R : w2.ownsRow w.heap.size 5 1 v' xs.length (xs.map (Value.int .u8)) := by simpa using hown2
  have B : Below w.heap.size w w2 := HN.out.2.1.grown hgrow (by simp) (by intro k hk; simp [Value.ownBlock] at hk; omega)
  have HR : Hid _ := And.intro R B
  clear R B hown2 hgrow
  go_wp2
  go_ret
  exact ⟨_, rfl, HR.out.1, HR.out.2⟩
/-- The books alone. -/
structure MC (w : World) (x c1 c2 c3 base : Nat) (m : PX) (wv : Value) : Prop where
  bk : w.heap[x]? = some (.cells #[.bool m.srv, .int .i64 (m.ad : Int), .slice (some ⟨c1, 0, none⟩) 256 256, .slice (some ⟨c2, 0, none⟩) 256 256, .slice (some ⟨c3, 0, none⟩) 256 256, wv] 47 (0, 0))
  r1 : Row256 w c1 3 (fun k => .int .i64 (m.cm k))
  r2 : Row256 w c2 3 (fun k => .int .i64 (m.st k))
  r3 : Row256 w c3 4 (fun k => .bool (m.va k))
  ne : c1 ≠ c2
  lo : base ≤ x ∧ base ≤ c1 ∧ base ≤ c2 ∧ base ≤ c3
section
variable {w w' : World} {x c1 c2 c3 base : Nat} {m : PX} {wv : Value} {Z : List ((List Int × Nat) × Value)}
theorem MB.books (h : MB w x c1 c2 c3 base m wv Z) : MC w x c1 c2 c3 base m wv := ⟨h.bk, h.r1, h.r2, h.r3, h.ne, h.lo⟩
theorem Row256.chg {c b' : Nat} {T T' : TypeId} {f : Nat → Value} {S : Nat → Prop} (h : Row256 w c T f) (hc : ChS S T' b' w w') (hn : ¬ S c) (ht : T ≠ T') : Row256 w' c T f := by
  obtain ⟨A, b, r⟩ := h
  exact ⟨A, hc.bk b (Or.inr ⟨hn, ht⟩), r⟩
theorem MC.chg (h : MC w x c1 c2 c3 base m wv) {b' : Nat} (hc : ChS (fun _ => False) 69 b' w w') : MC w' x c1 c2 c3 base m wv :=
  ⟨hc.bk h.bk (Or.inr ⟨fun e => e, by decide⟩), h.r1.chg hc (fun e => e) (by decide), h.r2.chg hc (fun e => e) (by decide), h.r3.chg hc (fun e => e) (by decide), h.ne, h.lo⟩
theorem MC.below (h : MC w x c1 c2 c3 base m wv) (hb : Below w.heap.size w w') : MC w' x c1 c2 c3 base m wv := h.chg (b' := 0) (ChS.of_below hb)
theorem MC.x12 (h : MC w x c1 c2 c3 base m wv) : x ≠ c1 ∧ x ≠ c2 ∧ x ≠ c3 := by
  have ty : ∀ (a b : Nat) (A B : Array Value) (S T : TypeId), w.heap[a]? = some (.cells A S (0, 0)) → w.heap[b]? = some (.cells B T (0, 0)) → S ≠ T → a ≠ b := fun a b A B S T ha hb hn e => by
    subst e
    rw [ha] at hb
    have e2 := Option.some.inj hb
    injection e2 with _ e3
    exact hn e3
  obtain ⟨A1, b1, _⟩ := h.r1
  obtain ⟨A2, b2, _⟩ := h.r2
  obtain ⟨A3, b3, _⟩ := h.r3
  exact ⟨ty _ _ _ _ _ _ h.bk b1 (by decide), ty _ _ _ _ _ _ h.bk b2 (by decide), ty _ _ _ _ _ _ h.bk b3 (by decide)⟩
theorem MC.c5 (h : MC w x c1 c2 c3 base m wv) : w.cell? ⟨x, 5, none⟩ = some wv ∧ w.cell? ⟨x, 1, none⟩ = some (.int .i64 (m.ad : Int)) ∧ w.frozen? ⟨x, 5, none⟩ = false ∧ x < w.heap.size :=
  ⟨(bk_cell h.bk 5).trans rfl, (bk_cell h.bk 1).trans rfl, bk_free h.bk 5, (Array.getElem?_eq_some_iff.1 h.bk).1⟩
/-- New challenges that wait. -/
theorem MC.setW (h : MC w x c1 c2 c3 base m wv) (wv' : Value) (ws : List (List Int × Nat)) (hz : Z.map (·.1) = ws) (ho : OffR 69 2 w base wv' (Z.map zrow)) (hw : ∀ z ∈ Z, w.ownsRow base 5 1 z.2 z.1.1.length (z.1.1.map (Value.int .u8))) :
    MB (w.setCell ⟨x, 5, none⟩ wv') x c1 c2 c3 base { m with ws := ws } wv' Z := by
  obtain ⟨n1, n2, n3⟩ := h.x12
  exact ⟨(bk_set h.bk 5 wv').trans rfl, h.r1.same (bk_other (Ne.symm n1) _ _), h.r2.same (bk_other (Ne.symm n2) _ _), h.r3.same (bk_other (Ne.symm n3) _ _), h.ne, h.lo, hz, ho.set h.bk (by decide), fun z hz' => own_setT (hw z hz') h.bk (by decide)⟩
end
theorem infoWait : (Try.prog.info? 69).map (fun i => (i.zero, i.size, i.bytes)) = some (some (.agg #[.int .i64 0, .slice none 0 0]), 2, 32) := by kernel_rfl
theorem zrow_flat (Z : List ((List Int × Nat) × Value)) (h : ∀ z ∈ Z, z.2.oneCell' = true) : FlatK 2 (Z.map zrow) := fun y hy => by
  obtain ⟨z, hz, rfl⟩ := List.mem_map.1 hy
  refine ⟨rfl, fun v hv => ?_⟩
  unfold zrow at hv
  rcases (by simpa using hv : v = .int .i64 (z.1.2 : Int) ∨ v = z.2) with rfl | rfl
  · rfl
  · exact h z hz
theorem own_one {w : World} {b e s n : Nat} {v : Value} {xs : List Value} (h : w.ownsRow b e s v n xs) : v.oneCell' = true := by
  rcases h.2 with ⟨rfl, _⟩ | ⟨g, cap, cur, rfl, _⟩ <;> rfl
def MDo (x c1 c2 c3 base : Nat) (w w' : World) (m' : PX) : Prop := MRp w' x c1 c2 c3 base m' ∧ ChS (KS x c1 c2 c3) 69 base w w'
theorem ChS.setK {x c1 c2 c3 base : Nat} {w w1 : World} (h : ChS (KS x c1 c2 c3) 69 base w w1) (k : Nat) (hk : KS x c1 c2 c3 k) (hb : base ≤ k) (o : Nat) (v : Value) : ChS (KS x c1 c2 c3) 69 base w (w1.setCell ⟨k, o, none⟩ v) := h.setS hk hb o v
set_option maxRecDepth 20000 in
set_option maxHeartbeats 4000000 in
theorem chalM (x c1 c2 c3 base : Nat) (m : PX) (v : Value) (D : List Int) (i : Nat) (w : World) (h : MRp w x c1 c2 c3 base m) (hI : PXI i m) (hr : Row w .u8 v D) (hl : D.length ≤ 1048576) (hbase : base ≤ w.heap.size) :
    Calls Try.prog 20 #[.pointer (some ⟨x, 0, none⟩), v] w fun e w' => e = .returned (.tuple #[]) ∧ MDo x c1 c2 c3 base w w' { m with ws := wpush m.ws (D, m.ad) } := by
  obtain ⟨wv, Z, h⟩ := h
  have M := h.books
  obtain ⟨d5, d1, f5, hx⟩ := M.c5
  obtain ⟨wa, wcp, ew⟩ := h.of.form
  have hzl : Z.length = m.ws.length := by rw [← h.zs, List.length_map]
  obtain ⟨wn, ewn⟩ : ∃ wn, wn = m.ws.length := ⟨_, rfl⟩
  rw [List.length_map, hzl, ← ewn] at ew
  have C := cpyM v D w.drew hr hl
  have hw4 : wn ≤ 4 := by have := hI.wl; omega
  have hO' := h.of
  rw [ew] at hO'
  obtain ⟨ao, cp, ev⟩ := hr.form
  obtain ⟨ad, ead⟩ : ∃ ad, ad = m.ad := ⟨_, rfl⟩
  rw [← ead] at d1
  have HC : Hid _ := And.intro C (And.intro h (And.intro M (And.intro ewn (And.intro hzl (And.intro hO' ead)))))
  rw [← ead]
  obtain ⟨dn, edn⟩ : ∃ dn, dn = D.length := ⟨_, rfl⟩
  rw [← edn] at ev
  clear C h M hO' hr hI ewn hzl hl ead edn
  subst ew ev
  go_enter Try.func20, Try.ntmps20
  go_wp2_with fail
  go_cut [] from 4 to 34 (fun wx => ∃ g5 q5 k5 r, MC wx x c1 c2 c3 base m (.slice (some ⟨g5, q5, none⟩) (wn + 1) k5) ∧ OffR 69 2 wx base (.slice (some ⟨g5, q5, none⟩) (wn + 1) k5) ((Z ++ [((D, m.ad), r)]).map zrow) ∧ (∀ z ∈ Z ++ [((D, m.ad), r)], wx.ownsRow base 5 1 z.2 z.1.1.length (z.1.1.map (Value.int .u8))) ∧ ChS (KS x c1 c2 c3) 69 base w wx ∧ wn + 1 ≤ k5)
  case first =>
    go_region_law (first
      | (go_simp; go_at_call 27; refine HC.out.1.mono ?_; rintro e w1 ⟨r, rfl, o1, b1⟩
         have b1' : Below w.heap.size w w1 := ⟨b1.os, b1.tape, b1.output, b1.size, b1.block⟩
         have M1 := HC.out.2.2.1.below b1'
         obtain ⟨p5, p1, g5', hx1⟩ := M1.c5
         rw [← HC.out.2.2.2.2.2.2] at p1
         obtain ⟨ra, rc, er⟩ := (row_of_owns o1).form
         obtain ⟨rn, ern⟩ : ∃ rn, rn = D.length := ⟨_, rfl⟩
         rw [← ern] at er
         have bA : Below w1.heap.size w1 (w1.alloc (.cells #[.int .i64 (ad : Int), .slice ra rn rc] 69)) := (Below.refl _ _).alloc (Nat.le_refl _) _
         have O1 := (HC.out.2.2.2.2.2.1.below b1').below bA
         have L1 : GRow 2 (w1.alloc (.cells #[.int .i64 (ad : Int), .slice ra rn rc] 69)) (.slice (some ⟨w1.heap.size, 0, none⟩) 1 1) [zrow ((D, ad), .slice ra rn rc)] := lit_flat w1 (zrow ((D, ad), .slice ra rn rc)) 69
         have hs1 : base ≤ (w1.alloc (.cells #[.int .i64 (ad : Int), .slice ra rn rc] 69)).heap.size := Nat.le_trans hbase (Nat.le_trans b1'.size bA.size)
         have H1 : Hid _ := And.intro O1 (And.intro L1 (And.intro hs1 (And.intro M1 (And.intro b1' (And.intro bA (And.intro o1 er))))))
         clear O1 L1 hs1 M1 b1' b1 bA o1 ern
         subst er)
      | (refine step_append_off rfl (.tmp 8) (.tmp 16) 45 69 Try.underlying45 _ 2 32 infoWait rfl (by decide) (by decide) rfl base (.slice wa wn wcp) (Z.map zrow) (zrow_flat _ (fun z hz => own_one (HC.out.2.1.ow z hz))) rfl H1.out.1 _ [zrow ((D, ad), .slice ra rn rc)] (zrow_flat [((D, ad), .slice ra rn rc)] (by simp; rfl)) rfl H1.out.2.1 (Nat.zero_lt_succ _) (by rw [List.length_map, HC.out.2.2.2.2.1, ← HC.out.2.2.2.1, List.length_singleton]; omega) H1.out.2.2.1 ?_
         intro v5 w5 o5 c5
         have M5 : MC w5 x c1 c2 c3 base m _ := (H1.out.2.2.2.1.below H1.out.2.2.2.2.2.1).chg (c5 (fun _ => False))
         have Q5 : ∀ z ∈ Z ++ [((D, ad), Value.slice ra rn rc)], w5.ownsRow base 5 1 z.2 z.1.1.length (z.1.1.map (Value.int .u8)) := fun z hz => by
           rcases List.mem_append.1 hz with hz | hz
           · exact (c5 (fun _ => False)).ownsC (owns_below (owns_below (HC.out.2.1.ow z hz) H1.out.2.2.2.2.1) H1.out.2.2.2.2.2.1) (by decide) (fun _ _ e => e)
           · obtain rfl : z = ((D, ad), Value.slice ra rn rc) := by simpa using hz
             have t := H1.out.2.2.2.2.2.2.1
             rw [H1.out.2.2.2.2.2.2.2] at t
             exact (c5 (fun _ => False)).ownsC (owns_below (owns_mono t hbase) H1.out.2.2.2.2.2.1) (by decide) (fun _ _ e => e)
         obtain ⟨g5, q5, k5, ev5, hk5, hm5⟩ := o5.full (by simp)
         obtain ⟨n5, en5⟩ : ∃ n5, n5 = (List.map zrow Z ++ [zrow ((D, ad), Value.slice ra rn rc)]).length := ⟨_, rfl⟩
         rw [← en5] at ev5 hk5
         have e5 : n5 = wn + 1 := by rw [en5, List.length_append, List.length_map, HC.out.2.2.2.2.1, ← HC.out.2.2.2.1]; rfl
         obtain ⟨y5, _, fz5, hx5⟩ := M5.c5
         have C5 : ChS (KS x c1 c2 c3) 69 base w w5 := ((ChS.of_below H1.out.2.2.2.2.1).trans (ChS.of_below H1.out.2.2.2.2.2.1)).trans (c5 _)
         have H5 : Hid _ := And.intro o5 (And.intro C5 (And.intro M5 (And.intro e5 Q5)))
         subst ev5
         clear o5 c5 M5 en5 e5 Q5 C5))
    all_goals
      go_wp2_with fail
      go_meet
      obtain ⟨o5, C5, M5, e5, Q5⟩ := H5.out
      rw [e5] at hk5 o5 ⊢
      have T := M5.setW (Z := Z ++ [((D, ad), Value.slice ra rn rc)]) (.slice (some ⟨g5, q5, none⟩) (wn + 1) k5) _ rfl (by rw [List.map_append]; exact o5) Q5
      have ead := HC.out.2.2.2.2.2.2
      rw [← ead]
      exact ⟨g5, q5, k5, .slice ra rn rc, ⟨T.bk, T.r1, T.r2, T.r3, T.ne, T.lo⟩, T.of, T.ow, C5.setK x (Or.inl rfl) HC.out.2.2.1.lo.1 5 _, hk5⟩
  case rest =>
  obtain ⟨g5, q5, k5, r, M6, O6, Q6, C6, hk5⟩ := hcut
  obtain ⟨y5, _, fz5, hx5⟩ := M6.c5
  have H6 : Hid _ := And.intro M6 (And.intro O6 (And.intro Q6 C6))
  have hlo := M6.lo.1
  clear M6 O6 Q6 C6 d5 d1 f5 hx
  obtain ⟨n6, e6⟩ : ∃ n6, n6 = wn + 1 := ⟨_, rfl⟩
  rw [← e6] at y5 H6 hk5
  have HE : Hid _ := e6
  by_cases h4 : wn < 4
  · have hn6 : ¬ (4 : Int) < (n6 : Int) := by omega
    clear e6
    go_wp2_with fail
    go_end0
    have hwn : m.ws.length < 4 := by have := HC.out.2.2.2.1; omega
    have ead := HC.out.2.2.2.2.2.2
    subst ead
    obtain ⟨M6, O6, Q6, C6⟩ := H6.out
    exact ⟨rfl, ⟨_, Z ++ [((D, m.ad), r)], ⟨M6.bk, M6.r1, M6.r2, M6.r3, M6.ne, M6.lo, by show (Z ++ [((D, m.ad), r)]).map (·.1) = wpush m.ws (D, m.ad); unfold wpush; rw [if_pos hwn, List.map_append, HC.out.2.1.zs]; rfl, O6, Q6⟩⟩, C6⟩
  · have hn6 : (4 : Int) < (n6 : Int) := by omega
    have hk0 : ¬ k5 = 1 := by omega
    have hk1 : (1 : Int) ≤ (n6 : Int) := by omega
    clear e6
    go_wp2_with fail
    go_end0
    have hwn : ¬ m.ws.length < 4 := by have := HC.out.2.2.2.1; omega
    have ead := HC.out.2.2.2.2.2.2
    subst ead
    obtain ⟨M6, O6, Q6, C6⟩ := H6.out
    obtain ⟨z0, Z0, ez⟩ : ∃ z0 Z0, Z = z0 :: Z0 := by
      cases hz : Z with
      | nil => have t1 := HC.out.2.2.2.2.1; have t2 := HC.out.2.2.2.1; rw [hz] at t1; simp at t1; omega
      | cons z0 Z0 => exact ⟨z0, Z0, rfl⟩
    rw [ez] at O6
    obtain ⟨g7, q7, ea, en, O7⟩ := OffR.tail (L := (Z0 ++ [((D, m.ad), r)]).map zrow) O6 (by have := HE.out; omega)
    simp only [Option.some.injEq, Addr.mk.injEq] at ea
    obtain ⟨rfl, rfl, -⟩ := ea
    have en' : n6 - 1 = ((Z0 ++ [((D, m.ad), r)]).map zrow).length := by rw [en]; omega
    rw [← en'] at O7
    have T := M6.setW (Z := Z0 ++ [((D, m.ad), r)]) (.slice (some ⟨g5, q5 + 2, none⟩) (n6 - 1) (k5 - 1)) (wpush m.ws (D, m.ad)) (by
      unfold wpush
      rw [if_neg hwn, ← HC.out.2.1.zs, ez]
      simp) O7 (fun z hz => Q6 z (by
        rw [ez]
        rcases List.mem_append.1 hz with q | q
        · exact List.mem_append.2 (Or.inl (List.mem_cons_of_mem _ q))
        · exact List.mem_append.2 (Or.inr q)))
    exact ⟨rfl, ⟨_, _, T⟩, C6.setK x (Or.inl rfl) hlo 5 _⟩
end Go.Proofs.Ytdoglkjhmaiknaa

namespace Go.Proofs.Ytdoglkjhmaiknaa
open Go.RowKit
set_option linter.unusedVariables false
set_option linter.unusedSimpArgs false

theorem convM {P : Program} {w : World} {e ts tstr : Nat} {v : Value} {xs : List Int} (hs : P.underlying ts = some (.slice e)) (he : P.underlying e = some (.int .u8)) (hd : P.underlying tstr = some .string)
    (h : Row w .u8 v xs) : (convert ts tstr v).run P w = .ok (.string (strOfNums xs)) w := by
  by_cases h0 : 0 < xs.length
  · obtain ⟨b, off, cap, rfl, hb, hc⟩ := h.at h0
    exact run_convert_bytes_arg w ts e hs he b off xs.length cap xs rfl hc tstr hd
  · obtain rfl : xs = [] := List.eq_nil_of_length_eq_zero (by omega)
    obtain ⟨ao, cap, rfl⟩ := h.form
    cases ao with
    | none => exact run_convert_bytes_nil w ts e hs he 0 cap tstr hd
    | some p => simp [convert, run_underlying hs, run_underlying he, run_underlying hd, Conv.bytesToString, loadCells, loadCellsFrom, strOfNums]; rfl
theorem drewN_add (w : World) (a b : Nat) : (w.drewN a).drewN b = w.drewN (a + b) := by
  simp [World.drewN, Nat.add_assoc]
theorem take_skip {α : Type} [Inhabited α] (L : List α) (p : α → Bool) (j : Nat) (hj : j < L.length) (hp : p (L.getD j default) = false) : (L.take (j + 1)).filter p = (L.take j).filter p := by
  have hp' : p L[j] = false := by simpa [List.getD, hj] using hp
  rw [← List.take_append_getElem hj, List.filter_append]
  simp [hp']
theorem take_keep {α : Type} [Inhabited α] (L : List α) (p : α → Bool) (j : Nat) (hj : j < L.length) (hp : p (L.getD j default) = true) : (L.take (j + 1)).filter p = (L.take j).filter p ++ [L.getD j default] := by
  have hp' : p L[j] = true := by simpa [List.getD, hj] using hp
  rw [← List.take_append_getElem hj, List.filter_append]
  simp [hp', List.getD, hj]
theorem gown_lt {T : TypeId} {K : Nat} {w : World} {base : Nat} {v : Value} {L : List (List Value)} (h : GOwns T K w base v L) : ∀ k, v.ownBlock = some k → base ≤ k := by
  obtain ⟨zs, o, _⟩ := h
  exact fun k hk => (o.lt k hk).1
/-- What the search for an answer has told behind k places. -/
def AtK (ws : List (List Int × Nat)) (D : List Int) (k : Nat) (av : Int) : Prop :=
  (av = -1 ∧ ∀ j, j < k → (ws.getD j default).1 ≠ D) ∨ (0 < k ∧ k - 1 < ws.length ∧ wat ws D = k - 1 ∧ av = ((ws.getD (k - 1) default).2 : Int))
theorem wat_hit (ws : List (List Int × Nat)) (D : List Int) (k : Nat) (hk : k < ws.length) (he : (ws.getD k default).1 = D) (hno : ∀ j, j < k → (ws.getD j default).1 ≠ D) : wat ws D = k := by
  unfold wat
  exact (List.findIdx_eq hk).2 ⟨by simpa [List.getD, hk] using he, fun j hj => by have := hno j hj; simpa [List.getD, show j < ws.length by omega] using this⟩
theorem wat_none (ws : List (List Int × Nat)) (D : List Int) (hno : ∀ j, j < ws.length → (ws.getD j default).1 ≠ D) : ¬ wat ws D < ws.length := by
  have : wat ws D = ws.length := List.findIdx_eq_length.2 (fun x hx => by
    obtain ⟨j, hj, rfl⟩ := List.getElem_of_mem hx
    have := hno j hj
    simpa [List.getD, hj] using this)
  omega
theorem bytes_of {xs : List Int} (h : ∀ x ∈ xs, 0 ≤ x ∧ x < 256) : Bytes xs := h
/-- What is read of one that waits. -/
theorem MB.at {w : World} {x c1 c2 c3 base : Nat} {m : PX} {wv : Value} {Z : List ((List Int × Nat) × Value)} (h : MB w x c1 c2 c3 base m wv Z) (k : Nat) (hk : k < m.ws.length) :
    ∃ g o cap u, wv = .slice (some ⟨g, o, none⟩) m.ws.length cap ∧ g < w.heap.size ∧ w.cell? ⟨g, o + k * 2, none⟩ = some (.int .i64 ((m.ws.getD k default).2 : Int)) ∧ w.cell? ⟨g, o + k * 2 + 1, none⟩ = some u ∧ Z.getD k default = (m.ws.getD k default, u) ∧ w.ownsRow base 5 1 u (m.ws.getD k default).1.length ((m.ws.getD k default).1.map (Value.int .u8)) := by
  have hzl : Z.length = m.ws.length := by rw [← h.zs, List.length_map]
  have hz : (Z.getD k default).1 = m.ws.getD k default := by
    rw [← h.zs]
    simp [List.getD, show k < Z.length by omega]
  have hmem : Z.getD k default ∈ Z := getD_mem _ _ _ (by omega)
  rcases h.of with ⟨_, h0⟩ | ⟨g, o, cap, cur, e, q1, q2, q3, q4, q5, q6⟩
  · rw [List.map_eq_nil_iff] at h0; rw [h0] at hzl; simp at hzl; omega
  · rw [List.length_map, hzl] at e
    have t0 := q6 k 0 (by rw [List.length_map]; omega) (by omega)
    have t1 := q6 k 1 (by rw [List.length_map]; omega) (by omega)
    rw [map_at zrow Z default k (by omega)] at t0 t1
    refine ⟨g, o, cap, (Z.getD k default).2, e, (Array.getElem?_eq_some_iff.1 q2).1, by rw [bk_cell q2]; rw [← hz]; exact t0, by rw [bk_cell q2]; exact t1, ?_, ?_⟩
    · rw [← hz]
    · have o := h.ow _ hmem
      rw [hz] at o
      exact o
set_option maxRecDepth 20000 in
set_option maxHeartbeats 4000000 in
theorem answM1 (x c1 c2 c3 base : Nat) (m : PX) (v : Value) (D : List Int) (i : Nat) (w : World) (h : MRp w x c1 c2 c3 base m) (hI : PXI i m) (hr : Row w .u8 v D) (hl : D.length ≤ 1048576) (hbase : base ≤ w.heap.size) (hby : ∀ x ∈ D, 0 ≤ x ∧ x < 256) :
    Calls Try.prog 21 #[.pointer (some ⟨x, 0, none⟩), v] w fun e w' => e = .returned (.bool (decide (wat m.ws D < m.ws.length))) ∧ MDo x c1 c2 c3 base w w' (answM m D) := by
  obtain ⟨wv, Z, h⟩ := h
  have M := h.books
  obtain ⟨d5, d1, f5, hx⟩ := M.c5
  obtain ⟨wa, wcp, ew⟩ := h.of.form
  have hzl : Z.length = m.ws.length := by rw [← h.zs, List.length_map]
  obtain ⟨n, en⟩ : ∃ n, n = m.ws.length := ⟨_, rfl⟩
  rw [List.length_map, hzl, ← en] at ew
  have hw4 : n ≤ 4 := by have := hI.wl; omega
  obtain ⟨ao, cp, ev⟩ := hr.form
  obtain ⟨dn, edn⟩ : ∃ dn, dn = D.length := ⟨_, rfl⟩
  rw [← edn] at ev
  have HC : Hid _ := And.intro h (And.intro hI (And.intro hr (And.intro en (And.intro hby hzl))))
  clear h M hI hr en hby hzl hl edn
  subst ew ev
  go_enter Try.func21, Try.ntmps21
  go_wp2_with fail
  go_loopg [5, 6] n (fun q av kv wr => ∃ (k : Nat) (a : Int), k ≤ n ∧ q = n - k ∧ av = .int .i64 a ∧ kv = .int .i64 (k : Int) ∧ AtK m.ws D k a ∧ ∃ z, wr = w.drewN z)
  case atStart => exact ⟨0, -1, Nat.zero_le _, by omega, rfl, rfl, Or.inl ⟨rfl, fun j hj => by omega⟩, 0, rfl⟩
  case round =>
    obtain ⟨k, a, hk, hq, rfl, rfl, hA, z, hz0⟩ := hrel
    have hz : Hid _ := hz0
    clear hz0
    have hMB : MB wr x c1 c2 c3 base m (.slice wa n wcp) Z := HC.out.1.below (by rw [hz.out]; exact below_drewN (Below.refl _ _) _)
    rcases hA with ⟨rfl, hno⟩ | ⟨hk0, hk1, hwt, rfl⟩
    · by_cases hlt : k < n
      · have hkl : k < m.ws.length := by have := HC.out.2.2.2.1; omega
        obtain ⟨g, o, cap, u, ev, hgl, y0, y1, ez, ou⟩ := hMB.at k hkl
        rw [← HC.out.2.2.2.1] at ev
        simp only [Value.slice.injEq] at ev
        obtain ⟨rfl, -, rfl⟩ := ev
        obtain ⟨c5, c1', _, hxl⟩ := hMB.books.c5
        have cv1 : ∀ q : Nat, _ := fun q => convM (w := wr.drewN q) Try.underlying22 Try.underlying5 Try.underlying9 ((row_of_owns ou).drewN q)
        have cv2 : ∀ q : Nat, _ := fun q => convM (w := wr.drewN q) Try.underlying22 Try.underlying5 Try.underlying9 (show Row (wr.drewN q) .u8 (.slice ao dn cp) D from by rw [hz.out]; exact (HC.out.2.2.1.drewN z).drewN q)
        obtain ⟨ua, uc, eu⟩ := (row_of_owns ou).form
        obtain ⟨un, eun⟩ : ∃ un, un = (m.ws.getD k default).1.length := ⟨_, rfl⟩
        rw [← eun] at eu
        have hbE := (HC.out.2.1.wb _ (getD_mem m.ws default k hkl))
        have hbD := HC.out.2.2.2.2.1
        have HK : Hid _ := And.intro hno (And.intro hkl ou)
        clear ou ez eun hno hMB hkl
        subst eu
        by_cases he : (m.ws.getD k default).1 = D
        · have hs : ((strOfNums (m.ws.getD k default).1).toList == (strOfNums D).toList) = true := by rw [he]; simp
          generalize strOfNums (m.ws.getD k default).1 = s1 at cv1 hs
          generalize strOfNums D = s2 at cv2 hs
          have HE : Hid _ := he
          clear he hbE hbD
          go_wp2_with fail
          go_quiet (fail)
          go_wp2_with fail
          go_roundg (n - (k + 1))
          case measure => omega
          case rel => exact ⟨k + 1, _, by omega, rfl, rfl, by go_num, Or.inr ⟨by omega, by rw [Nat.add_sub_cancel]; exact HK.out.2.1, by rw [Nat.add_sub_cancel]; exact wat_hit m.ws D k HK.out.2.1 HE.out HK.out.1, by rw [Nat.add_sub_cancel]; rfl⟩, z + nq, by rw [hz.out]; exact drewN_add w z nq⟩
        · have hs := str_ne _ _ hbE hbD he
          generalize strOfNums (m.ws.getD k default).1 = s1 at cv1 hs
          generalize strOfNums D = s2 at cv2 hs
          have HE : Hid _ := he
          clear he hbE hbD
          go_wp2_with fail
          go_quiet (fail)
          go_wp2_with fail
          go_roundg (n - (k + 1))
          case measure => omega
          case rel => exact ⟨k + 1, -1, by omega, rfl, rfl, by go_num, Or.inl ⟨rfl, fun j hj => by
            by_cases hjk : j = k
            · rw [hjk]; exact HE.out
            · exact HK.out.1 j (by omega)⟩, z + nq, by rw [hz.out]; exact drewN_add w z nq⟩
      · obtain rfl : k = n := by omega
        have hnf := wat_none m.ws D (fun j hj => hno j (by have := HC.out.2.2.2.1; omega))
        obtain ⟨c5, c1', _, hxl⟩ := hMB.books.c5
        have HN : Hid _ := And.intro hnf hMB
        clear hno hnf hMB
        go_wp2_with fail
        go_ret
        have e2 : answM m D = m := by unfold answM; rw [if_neg HN.out.1]
        rw [decide_eq_false HN.out.1, e2]
        exact ⟨rfl, ⟨_, _, HN.out.2⟩, by rw [hz.out]; exact (ChS.refl _ _ _ _).drewN z⟩
    · obtain ⟨ad, ead⟩ : ∃ ad, ad = (m.ws.getD (k - 1) default).2 := ⟨_, rfl⟩
      rw [← ead]
      have hfd : Hid _ := And.intro (show wat m.ws D < m.ws.length by omega) (And.intro hwt ead)
      have had : ad < 256 := by rw [ead]; exact (HC.out.2.1.wd _ (getD_mem _ _ _ hk1)).2
      have hna : ¬ (ad : Int) < 0 := by omega
      clear hk1 hwt ead
      by_cases hlt : k < n
      · have hkI : (k : Int) < (n : Int) := by omega
        have hMB2 := hMB
        obtain ⟨e0, e1, e2, e3, e4, e5⟩ := hMB2.cells
        have y3 := hMB.r3.cell ad had
        have f3 := hMB.r3.free ad
        have hadI : (ad : Int) < 256 := by omega
        have hxl := (Array.getElem?_eq_some_iff.1 hMB.bk).1
        have hc3 := hMB.r3.lt
        have B1 := hMB.setV ad true
        obtain ⟨W1, eW1⟩ : ∃ W1, W1 = wr.setCell ⟨c3, ad, none⟩ (.bool true) := ⟨_, rfl⟩
        have C1 : ChS (KS x c1 c2 c3) 69 base w W1 := by
          rw [eW1, hz.out]
          exact ((ChS.refl _ _ _ _).drewN _).setK c3 (Or.inr (Or.inr (Or.inr rfl))) hMB.lo.2.2.2 ad _
        rw [← eW1] at B1
        have bA : Below W1.heap.size W1 (W1.alloc (.cells #[] 69)) := (Below.refl _ _).alloc (Nat.le_refl _) _
        have G0 := GOwns.lit0 69 2 W1 W1.heap.size (Nat.le_refl _)
        have hb1 : base ≤ W1.heap.size := by rw [eW1, setCell_size, hz.out]; exact hbase
        have sW1 : W1.heap.size = wr.heap.size := by rw [eW1]; exact setCell_size _ _ _
        rw [sW1] at bA G0 hb1
        have HT : Hid _ := And.intro B1 (And.intro C1 (And.intro bA (And.intro G0 (And.intro hb1 sW1))))
        have HW : Hid _ := eW1
        have HT2 := HT
        rw [eW1] at HT2
        clear B1 C1 bA G0 hb1 eW1 hMB hMB2 had e0 e1 e2 e3 sW1
        go_wp2_with fail
        go_loopg [7, 8] n (fun q lv kv wx => ∃ (j : Nat), j ≤ n ∧ q = n - j ∧ kv = .int .i64 (j : Int) ∧ GOwns 69 2 wx wr.heap.size lv (((Z.take j).filter (fun z => !decide (z.1.2 = ad))).map zrow) ∧ Below wr.heap.size W1 wx)
        case atStart =>
          exact ⟨0, Nat.zero_le _, by omega, rfl, HT2.out.2.2.2.1, by rw [HW.out]; exact HT2.out.2.2.1⟩
        case round =>
          rename World => ww
          obtain ⟨j, hj, hq2, rfl, G, bw⟩ := hrel
          have M2 := HT.out.1.below (w' := ww) (by rw [HT.out.2.2.2.2.2]; exact bw)
          obtain ⟨m5, _, mf5, mx⟩ := M2.books.c5
          have hbw : wr.heap.size ≤ ww.heap.size := by have := bw.size; rw [HT.out.2.2.2.2.2] at this; exact this
          have hlq : ((Z.take j).filter (fun z => !decide (z.1.2 = ad))).length ≤ 4 := Nat.le_trans (List.length_filter_le _ _) (by rw [List.length_take]; omega)
          by_cases hjn : j < n
          · have hjl : j < m.ws.length := by have := HC.out.2.2.2.1; omega
            have hjI : (j : Int) < (n : Int) := by omega
            obtain ⟨g2, o2, cap2, u2, ev2, hg2, z0, z1, ez2, ou2⟩ := M2.at j hjl
            rw [show ({ m with va := updF m.va ad true } : PX).ws.length = n from HC.out.2.2.2.1.symm] at ev2
            simp only [Value.slice.injEq] at ev2
            obtain ⟨rfl, -, rfl⟩ := ev2
            obtain ⟨aj, eaj⟩ : ∃ a, a = (m.ws.getD j default).2 := ⟨_, rfl⟩
            have z0' : ww.cell? ⟨g2, o2 + j * 2, none⟩ = some (.int .i64 (aj : Int)) := by rw [eaj]; exact z0
            have hzl : j < Z.length := by have := HC.out.2.2.2.2.2; omega
            have ezj : Z.getD j default = (m.ws.getD j default, u2) := ez2
            by_cases ha : aj = ad
            · have hne : ((aj : Int) != (ad : Int)) = false := by rw [ha]; simp
              have e3 := take_skip Z (fun z => !decide (z.1.2 = ad)) j hzl (by rw [ezj]; show (!decide ((m.ws.getD j default).2 = ad)) = false; rw [← eaj, ha]; simp)
              have HG : Hid _ := And.intro G (And.intro bw e3)
              clear G bw e3 M2 ez2 ou2 z0 eaj ha ezj hjl hzl
              go_wp2_with fail
              go_roundg (n - (j + 1))
              case measure => omega
              case rel => exact ⟨j + 1, by omega, rfl, by go_num, by rw [HG.out.2.2]; exact HG.out.1, HG.out.2.1⟩
            · have hne : ((aj : Int) != (ad : Int)) = true := by simp; omega
              have e3 := take_keep Z (fun z => !decide (z.1.2 = ad)) j hzl (by rw [ezj]; show (!decide ((m.ws.getD j default).2 = ad)) = true; rw [← eaj]; simp [ha])
              rw [ezj] at e3
              obtain ⟨ua2, uc2, eu2⟩ := (row_of_owns ou2).form
              obtain ⟨un2, eun2⟩ : ∃ un, un = (m.ws.getD j default).1.length := ⟨_, rfl⟩
              have eu3 : u2 = .slice ua2 un2 uc2 := by rw [eun2]; exact eu2
              obtain ⟨L2, eL2⟩ : ∃ L2, L2 = (Z.take j).filter (fun z => !decide (z.1.2 = ad)) := ⟨_, rfl⟩
              rw [← eL2] at G e3 hlq
              have fl : FlatK 2 (L2.map zrow) := zrow_flat _ (fun z hz => own_one (M2.ow z (by rw [eL2] at hz; exact List.mem_of_mem_take (List.mem_filter.1 hz).1)))
              obtain ⟨la, lc, el⟩ := G.row.form
              obtain ⟨ln, eln⟩ : ∃ ln, ln = (L2.map zrow).length := ⟨_, rfl⟩
              rw [← eln] at el
              subst eu3
              have bA : Below ww.heap.size ww (ww.alloc (.cells #[.int .i64 (aj : Int), .slice ua2 un2 uc2] 69)) := (Below.refl _ _).alloc (Nat.le_refl _) _
              have GA := G.below bA
              have LA : GRow 2 (ww.alloc (.cells #[.int .i64 (aj : Int), .slice ua2 un2 uc2] 69)) (.slice (some ⟨ww.heap.size, 0, none⟩) 1 1) [zrow ((m.ws.getD j default), .slice ua2 un2 uc2)] := by
                have t := lit_flat ww (zrow ((m.ws.getD j default), .slice ua2 un2 uc2)) 69
                unfold zrow at t ⊢
                dsimp only at t ⊢
                rw [← eaj] at t ⊢
                exact t
              have GL := gown_lt GA
              have hlq2 : (L2.map zrow).length ≤ 4 := by rw [List.length_map]; exact hlq
              rw [el] at GA GL
              have HG : Hid _ := And.intro GA (And.intro bw (And.intro e3 (And.intro fl (And.intro LA (And.intro bA (And.intro GL (And.intro hlq2 eL2)))))))
              clear G bw e3 M2 ez2 ou2 z0 eaj ha ezj hjl hzl fl bA GA LA GL hlq2 eL2 eln eu2 eun2 hlq
              subst el
              go_wp2_with (at_builtin; refine wpList_append_flat rfl (.tmp 70) (.tmp 78) 45 69 Try.underlying45 _ 2 32 infoWait rfl (by decide) (by decide) rfl wr.heap.size (.slice la ln lc) (L2.map zrow) HG.out.2.2.2.1 rfl HG.out.1 _ [zrow ((m.ws.getD j default), .slice ua2 un2 uc2)] (zrow_flat [((m.ws.getD j default), .slice ua2 un2 uc2)] (by simp; rfl)) rfl HG.out.2.2.2.2.1 (by have := HG.out.2.2.2.2.2.2.2.1; rw [List.length_singleton]; omega) (by have := HG.out.2.2.2.2.2.1.size; omega) ?_; intro v6 w6 o6 g6; have H6 : Hid _ := And.intro o6 g6; clear o6 g6)
              go_roundg (n - (j + 1))
              case measure => omega
              case rel => exact ⟨j + 1, by omega, rfl, by go_num, by rw [HG.out.2.2.1, List.map_append]; exact H6.out.1, by
                have b6 : Below wr.heap.size W1 _ := HG.out.2.1.trans (HG.out.2.2.2.2.2.1.mono hbw)
                exact b6.grown H6.out.2 (by have := b6.size; rw [HT.out.2.2.2.2.2] at this; exact this) HG.out.2.2.2.2.2.2.1⟩
          · obtain rfl : j = n := by omega
            have hjI : ¬ (j : Int) < (j : Int) := by omega
            have e4 : Z.take j = Z := List.take_of_length_le (by have := HC.out.2.2.2.2.2; have := HC.out.2.2.2.1; omega)
            rw [e4] at G
            obtain ⟨la, lc, el⟩ := G.row.form
            obtain ⟨ln, eln⟩ : ∃ ln, ln = ((Z.filter (fun z => !decide (z.1.2 = ad))).map zrow).length := ⟨_, rfl⟩
            rw [← eln] at el
            have HG : Hid _ := And.intro G (And.intro bw M2)
            clear G bw M2 e4 eln hlq
            subst el
            go_wp2_with fail
            go_ret
            obtain ⟨G, bw, M2⟩ := HG.out
            have e2 : answM m D = { m with va := updF m.va ad true, ws := wdel m.ws ad } := by unfold answM; rw [if_pos hfd.out.1, hfd.out.2.1, ← hfd.out.2.2]
            rw [decide_eq_true hfd.out.1, e2]
            have fl : FlatK 2 ((Z.filter (fun z => !decide (z.1.2 = ad))).map zrow) := zrow_flat _ (fun z hz => own_one (M2.ow z (List.mem_filter.1 hz).1))
            have OO := (OffR.of_owns (by decide) fl (G.flat (by decide) fl)).mono HT.out.2.2.2.2.1
            have T := M2.books.setW (Z := Z.filter (fun z => !decide (z.1.2 = ad))) _ (wdel m.ws ad) (by
              unfold wdel
              rw [← HC.out.1.zs, List.filter_map]
              rfl) OO (fun z hz => M2.ow z (List.mem_filter.1 hz).1)
            exact ⟨rfl, ⟨_, _, T⟩, (HT.out.2.1.trans (ChS.of_below (by rw [HT.out.2.2.2.2.2]; exact bw))).setK x (Or.inl rfl) HC.out.1.lo.1 5 _⟩
      · have hkI : ¬ (k : Int) < (n : Int) := by omega
        have hMB2 := hMB
        obtain ⟨e0, e1, e2, e3, e4, e5⟩ := hMB2.cells
        have y3 := hMB.r3.cell ad had
        have f3 := hMB.r3.free ad
        have hadI : (ad : Int) < 256 := by omega
        have hxl := (Array.getElem?_eq_some_iff.1 hMB.bk).1
        have hc3 := hMB.r3.lt
        have B1 := hMB.setV ad true
        obtain ⟨W1, eW1⟩ : ∃ W1, W1 = wr.setCell ⟨c3, ad, none⟩ (.bool true) := ⟨_, rfl⟩
        have C1 : ChS (KS x c1 c2 c3) 69 base w W1 := by
          rw [eW1, hz.out]
          exact ((ChS.refl _ _ _ _).drewN _).setK c3 (Or.inr (Or.inr (Or.inr rfl))) hMB.lo.2.2.2 ad _
        rw [← eW1] at B1
        have bA : Below W1.heap.size W1 (W1.alloc (.cells #[] 69)) := (Below.refl _ _).alloc (Nat.le_refl _) _
        have G0 := GOwns.lit0 69 2 W1 W1.heap.size (Nat.le_refl _)
        have hb1 : base ≤ W1.heap.size := by rw [eW1, setCell_size, hz.out]; exact hbase
        have sW1 : W1.heap.size = wr.heap.size := by rw [eW1]; exact setCell_size _ _ _
        rw [sW1] at bA G0 hb1
        have HT : Hid _ := And.intro B1 (And.intro C1 (And.intro bA (And.intro G0 (And.intro hb1 sW1))))
        have HW : Hid _ := eW1
        have HT2 := HT
        rw [eW1] at HT2
        clear B1 C1 bA G0 hb1 eW1 hMB hMB2 had e0 e1 e2 e3 sW1
        go_wp2_with fail
        go_loopg [7, 8] n (fun q lv kv wx => ∃ (j : Nat), j ≤ n ∧ q = n - j ∧ kv = .int .i64 (j : Int) ∧ GOwns 69 2 wx wr.heap.size lv (((Z.take j).filter (fun z => !decide (z.1.2 = ad))).map zrow) ∧ Below wr.heap.size W1 wx)
        case atStart =>
          exact ⟨0, Nat.zero_le _, by omega, rfl, HT2.out.2.2.2.1, by rw [HW.out]; exact HT2.out.2.2.1⟩
        case round =>
          rename World => ww
          obtain ⟨j, hj, hq2, rfl, G, bw⟩ := hrel
          have M2 := HT.out.1.below (w' := ww) (by rw [HT.out.2.2.2.2.2]; exact bw)
          obtain ⟨m5, _, mf5, mx⟩ := M2.books.c5
          have hbw : wr.heap.size ≤ ww.heap.size := by have := bw.size; rw [HT.out.2.2.2.2.2] at this; exact this
          have hlq : ((Z.take j).filter (fun z => !decide (z.1.2 = ad))).length ≤ 4 := Nat.le_trans (List.length_filter_le _ _) (by rw [List.length_take]; omega)
          by_cases hjn : j < n
          · have hjl : j < m.ws.length := by have := HC.out.2.2.2.1; omega
            have hjI : (j : Int) < (n : Int) := by omega
            obtain ⟨g2, o2, cap2, u2, ev2, hg2, z0, z1, ez2, ou2⟩ := M2.at j hjl
            rw [show ({ m with va := updF m.va ad true } : PX).ws.length = n from HC.out.2.2.2.1.symm] at ev2
            simp only [Value.slice.injEq] at ev2
            obtain ⟨rfl, -, rfl⟩ := ev2
            obtain ⟨aj, eaj⟩ : ∃ a, a = (m.ws.getD j default).2 := ⟨_, rfl⟩
            have z0' : ww.cell? ⟨g2, o2 + j * 2, none⟩ = some (.int .i64 (aj : Int)) := by rw [eaj]; exact z0
            have hzl : j < Z.length := by have := HC.out.2.2.2.2.2; omega
            have ezj : Z.getD j default = (m.ws.getD j default, u2) := ez2
            by_cases ha : aj = ad
            · have hne : ((aj : Int) != (ad : Int)) = false := by rw [ha]; simp
              have e3 := take_skip Z (fun z => !decide (z.1.2 = ad)) j hzl (by rw [ezj]; show (!decide ((m.ws.getD j default).2 = ad)) = false; rw [← eaj, ha]; simp)
              have HG : Hid _ := And.intro G (And.intro bw e3)
              clear G bw e3 M2 ez2 ou2 z0 eaj ha ezj hjl hzl
              go_wp2_with fail
              go_roundg (n - (j + 1))
              case measure => omega
              case rel => exact ⟨j + 1, by omega, rfl, by go_num, by rw [HG.out.2.2]; exact HG.out.1, HG.out.2.1⟩
            · have hne : ((aj : Int) != (ad : Int)) = true := by simp; omega
              have e3 := take_keep Z (fun z => !decide (z.1.2 = ad)) j hzl (by rw [ezj]; show (!decide ((m.ws.getD j default).2 = ad)) = true; rw [← eaj]; simp [ha])
              rw [ezj] at e3
              obtain ⟨ua2, uc2, eu2⟩ := (row_of_owns ou2).form
              obtain ⟨un2, eun2⟩ : ∃ un, un = (m.ws.getD j default).1.length := ⟨_, rfl⟩
              have eu3 : u2 = .slice ua2 un2 uc2 := by rw [eun2]; exact eu2
              obtain ⟨L2, eL2⟩ : ∃ L2, L2 = (Z.take j).filter (fun z => !decide (z.1.2 = ad)) := ⟨_, rfl⟩
              rw [← eL2] at G e3 hlq
              have fl : FlatK 2 (L2.map zrow) := zrow_flat _ (fun z hz => own_one (M2.ow z (by rw [eL2] at hz; exact List.mem_of_mem_take (List.mem_filter.1 hz).1)))
              obtain ⟨la, lc, el⟩ := G.row.form
              obtain ⟨ln, eln⟩ : ∃ ln, ln = (L2.map zrow).length := ⟨_, rfl⟩
              rw [← eln] at el
              subst eu3
              have bA : Below ww.heap.size ww (ww.alloc (.cells #[.int .i64 (aj : Int), .slice ua2 un2 uc2] 69)) := (Below.refl _ _).alloc (Nat.le_refl _) _
              have GA := G.below bA
              have LA : GRow 2 (ww.alloc (.cells #[.int .i64 (aj : Int), .slice ua2 un2 uc2] 69)) (.slice (some ⟨ww.heap.size, 0, none⟩) 1 1) [zrow ((m.ws.getD j default), .slice ua2 un2 uc2)] := by
                have t := lit_flat ww (zrow ((m.ws.getD j default), .slice ua2 un2 uc2)) 69
                unfold zrow at t ⊢
                dsimp only at t ⊢
                rw [← eaj] at t ⊢
                exact t
              have GL := gown_lt GA
              have hlq2 : (L2.map zrow).length ≤ 4 := by rw [List.length_map]; exact hlq
              rw [el] at GA GL
              have HG : Hid _ := And.intro GA (And.intro bw (And.intro e3 (And.intro fl (And.intro LA (And.intro bA (And.intro GL (And.intro hlq2 eL2)))))))
              clear G bw e3 M2 ez2 ou2 z0 eaj ha ezj hjl hzl fl bA GA LA GL hlq2 eL2 eln eu2 eun2 hlq
              subst el
              go_wp2_with (at_builtin; refine wpList_append_flat rfl (.tmp 70) (.tmp 78) 45 69 Try.underlying45 _ 2 32 infoWait rfl (by decide) (by decide) rfl wr.heap.size (.slice la ln lc) (L2.map zrow) HG.out.2.2.2.1 rfl HG.out.1 _ [zrow ((m.ws.getD j default), .slice ua2 un2 uc2)] (zrow_flat [((m.ws.getD j default), .slice ua2 un2 uc2)] (by simp; rfl)) rfl HG.out.2.2.2.2.1 (by have := HG.out.2.2.2.2.2.2.2.1; rw [List.length_singleton]; omega) (by have := HG.out.2.2.2.2.2.1.size; omega) ?_; intro v6 w6 o6 g6; have H6 : Hid _ := And.intro o6 g6; clear o6 g6)
              go_roundg (n - (j + 1))
              case measure => omega
              case rel => exact ⟨j + 1, by omega, rfl, by go_num, by rw [HG.out.2.2.1, List.map_append]; exact H6.out.1, by
                have b6 : Below wr.heap.size W1 _ := HG.out.2.1.trans (HG.out.2.2.2.2.2.1.mono hbw)
                exact b6.grown H6.out.2 (by have := b6.size; rw [HT.out.2.2.2.2.2] at this; exact this) HG.out.2.2.2.2.2.2.1⟩
          · obtain rfl : j = n := by omega
            have hjI : ¬ (j : Int) < (j : Int) := by omega
            have e4 : Z.take j = Z := List.take_of_length_le (by have := HC.out.2.2.2.2.2; have := HC.out.2.2.2.1; omega)
            rw [e4] at G
            obtain ⟨la, lc, el⟩ := G.row.form
            obtain ⟨ln, eln⟩ : ∃ ln, ln = ((Z.filter (fun z => !decide (z.1.2 = ad))).map zrow).length := ⟨_, rfl⟩
            rw [← eln] at el
            have HG : Hid _ := And.intro G (And.intro bw M2)
            clear G bw M2 e4 eln hlq
            subst el
            go_wp2_with fail
            go_ret
            obtain ⟨G, bw, M2⟩ := HG.out
            have e2 : answM m D = { m with va := updF m.va ad true, ws := wdel m.ws ad } := by unfold answM; rw [if_pos hfd.out.1, hfd.out.2.1, ← hfd.out.2.2]
            rw [decide_eq_true hfd.out.1, e2]
            have fl : FlatK 2 ((Z.filter (fun z => !decide (z.1.2 = ad))).map zrow) := zrow_flat _ (fun z hz => own_one (M2.ow z (List.mem_filter.1 hz).1))
            have OO := (OffR.of_owns (by decide) fl (G.flat (by decide) fl)).mono HT.out.2.2.2.2.1
            have T := M2.books.setW (Z := Z.filter (fun z => !decide (z.1.2 = ad))) _ (wdel m.ws ad) (by
              unfold wdel
              rw [← HC.out.1.zs, List.filter_map]
              rfl) OO (fun z hz => M2.ow z (List.mem_filter.1 hz).1)
            exact ⟨rfl, ⟨_, _, T⟩, (HT.out.2.1.trans (ChS.of_below (by rw [HT.out.2.2.2.2.2]; exact bw))).setK x (Or.inl rfl) HC.out.1.lo.1 5 _⟩
end Go.Proofs.Ytdoglkjhmaiknaa

namespace Go.Proofs.Ytdoglkjhmaiknaa
open Go.RowKit
set_option linter.unusedVariables false
set_option linter.unusedSimpArgs false

theorem MB.setO {W : World} {x c1 c2 c3 base q : Nat} {m : PX} {wv : Value} {Z : List ((List Int × Nat) × Value)} {c : Array Value} (h : MB W x c1 c2 c3 base m wv Z) (hb : W.heap[q]? = some (.cells c 32 (0, 0))) (o : Nat) (v : Value) : MB (W.setCell ⟨q, o, none⟩ v) x c1 c2 c3 base m wv Z := by
  have ty : ∀ (a : Nat) (A : Array Value) (T : TypeId), W.heap[a]? = some (.cells A T (0, 0)) → T ≠ 32 → a ≠ q := fun a A T ha hn e => by
    subst e
    rw [ha] at hb
    have e2 := Option.some.inj hb
    injection e2 with _ e3
    exact hn e3
  obtain ⟨A1, b1, _⟩ := h.r1
  obtain ⟨A2, b2, _⟩ := h.r2
  obtain ⟨A3, b3, _⟩ := h.r3
  exact ⟨(bk_other (ty _ _ _ h.bk (by decide)) o v).trans h.bk, h.r1.same (bk_other (ty _ _ _ b1 (by decide)) o v), h.r2.same (bk_other (ty _ _ _ b2 (by decide)) o v), h.r3.same (bk_other (ty _ _ _ b3 (by decide)) o v), h.ne, h.lo, h.zs, h.of.set hb (by decide), fun z hz => own_setT (h.ow z hz) hb (by decide)⟩
/-- Amid an operation of the model. -/
structure ObM (x c1 c2 c3 base : Nat) (w W : World) (m' : PX) (r1 r2 : Array Value) : Prop where
  P : MRp W x c1 c2 c3 base m'
  C : ChS (KS x c1 c2 c3) 69 base w W
  h1 : W.heap[w.heap.size + 1]? = some (.cells r1 32 (0, 0))
  h2 : W.heap[w.heap.size + 2]? = some (.cells r2 32 (0, 0))
theorem ObM.s1 {x c1 c2 c3 base : Nat} {w W : World} {m' : PX} {r1 r2 : Array Value} (h : ObM x c1 c2 c3 base w W m' r1 r2) (o : Nat) (v : Value) : ObM x c1 c2 c3 base w (W.setCell ⟨w.heap.size + 1, o, none⟩ v) m' (r1.setIfInBounds o v) r2 := by
  obtain ⟨wv, Z, P⟩ := h.P
  exact ⟨⟨wv, Z, P.setO h.h1 o v⟩, h.C.setN (by omega) o v, bk_set h.h1 o v, (bk_other (by omega) o v).trans h.h2⟩
theorem ObM.s2 {x c1 c2 c3 base : Nat} {w W : World} {m' : PX} {r1 r2 : Array Value} (h : ObM x c1 c2 c3 base w W m' r1 r2) (o : Nat) (v : Value) : ObM x c1 c2 c3 base w (W.setCell ⟨w.heap.size + 2, o, none⟩ v) m' r1 (r2.setIfInBounds o v) := by
  obtain ⟨wv, Z, P⟩ := h.P
  exact ⟨⟨wv, Z, P.setO h.h2 o v⟩, h.C.setN (by omega) o v, (bk_other (by omega) o v).trans h.h1, bk_set h.h2 o v⟩
theorem MRp.below {w w' : World} {x c1 c2 c3 base : Nat} {m : PX} (h : MRp w x c1 c2 c3 base m) (hb : Below w.heap.size w w') : MRp w' x c1 c2 c3 base m := by
  obtain ⟨wv, Z, P⟩ := h
  exact ⟨wv, Z, P.below hb⟩
theorem ObM.drew {x c1 c2 c3 base : Nat} {w W : World} {m' : PX} {r1 r2 : Array Value} (h : ObM x c1 c2 c3 base w W m' r1 r2) : ObM x c1 c2 c3 base w W.drew m' r1 r2 := by
  obtain ⟨wv, Z, P⟩ := h.P
  exact ⟨⟨wv, Z, P.below (below_drewN (Below.refl _ _) 1)⟩, h.C.drewN 1, h.h1, h.h2⟩
theorem bk_new3' (w : World) (o1 o2 o3 : Obj) : (((w.alloc o1).alloc o2).alloc o3).heap[w.heap.size + 1]? = some o2 ∧ (((w.alloc o1).alloc o2).alloc o3).heap[w.heap.size + 2]? = some o3 := ⟨(bk_new3 w o1 o2 o3).2.1, (bk_new3 w o1 o2 o3).2.2⟩
theorem below3 (w : World) (o1 o2 o3 : Obj) : Below w.heap.size w (((w.alloc o1).alloc o2).alloc o3) := (((Below.refl _ _).alloc (Nat.le_refl _) _).alloc (by simp) _).alloc (by simp; omega) _

set_option maxRecDepth 20000 in
set_option maxHeartbeats 4000000 in
theorem do_bad (x c1 c2 c3 base : Nat) (m : PX) (o : SPathOp) (dv : Value) (i : Nat) (w : World) (h : MRp w x c1 c2 c3 base m) (hI : PXI i m) (hi : i < 300) (hr : Row w .u8 dv o.f3) (hl : o.f3.length ≤ 1048576) (hbase : base ≤ w.heap.size) (hby : ∀ x ∈ o.f3, 0 ≤ x ∧ x < 256)
    (hc : o.f2 < 0 ∨ 255 < o.f2 ∨ o.f1 < 0 ∨ 2000 < o.f1 ∨ o.f0 < 1 ∨ 4 < o.f0 ∨ (3 ≤ o.f0 ∧ o.f3.length ≠ 8)) :
    Calls Try.prog 14 #[.pointer (some ⟨x, 0, none⟩), .agg #[.int .i64 o.f0, .int .i64 o.f1, .int .i64 o.f2, dv]] w fun e w' => e = .returned (.agg #[.int .i64 (pstep m o).2.1, .int .i64 0, .int .i64 0, .bool false, .bool (pstep m o).2.2]) ∧ MDo x c1 c2 c3 base w w' (pstep m o).1 := by
  have es : pstep m o = (m, 1, false) := by
    unfold pstep
    by_cases h1 : o.f2 < 0 ∨ 255 < o.f2 ∨ o.f1 < 0 ∨ 2000 < o.f1
    · rw [if_pos h1]
    rw [if_neg h1, if_neg (by omega), if_neg (by omega)]
    by_cases h3 : o.f0 = 3
    · rw [if_pos h3, if_pos (by omega)]
    rw [if_neg h3]
    by_cases h4 : o.f0 = 4
    · rw [if_pos h4, if_pos (by omega)]
    rw [if_neg h4]
  rw [es]
  obtain ⟨ao, cp, ev⟩ := hr.form
  generalize o.f3.length = dn at *
  subst ev
  obtain ⟨k, n, a, D⟩ := o
  dsimp only at *
  have HH : Hid _ := And.intro h (And.intro hI hr)
  clear h hI hr es hby hl
  go_enter Try.func14, Try.ntmps14
  by_cases ha : a < 0
  · clear hc
    go_wp2_with fail
    refine bodyPost_ret (v := .agg #[.int .i64 1, .int .i64 0, .int .i64 0, .bool false, .bool false]) ?_ rfl ?_
    · exact results_cell_row (t := 32) rfl _ _ (w.heap.size + 1) _ (fr := (0, 0)) _ rfl (bk_new3' w _ _ _).1 Try.underlying32 rfl infoPObs
    · exact ⟨rfl, HH.out.1.below (below3 w _ _ _), ChS.of_below (below3 w _ _ _)⟩
  by_cases ha2 : 255 < a
  · clear hc
    go_wp2_with fail
    refine bodyPost_ret (v := .agg #[.int .i64 1, .int .i64 0, .int .i64 0, .bool false, .bool false]) ?_ rfl ?_
    · exact results_cell_row (t := 32) rfl _ _ (w.heap.size + 1) _ (fr := (0, 0)) _ rfl (bk_new3' w _ _ _).1 Try.underlying32 rfl infoPObs
    · exact ⟨rfl, HH.out.1.below (below3 w _ _ _), ChS.of_below (below3 w _ _ _)⟩
  by_cases hn : n < 0
  · clear hc
    go_wp2_with fail
    refine bodyPost_ret (v := .agg #[.int .i64 1, .int .i64 0, .int .i64 0, .bool false, .bool false]) ?_ rfl ?_
    · exact results_cell_row (t := 32) rfl _ _ (w.heap.size + 1) _ (fr := (0, 0)) _ rfl (bk_new3' w _ _ _).1 Try.underlying32 rfl infoPObs
    · exact ⟨rfl, HH.out.1.below (below3 w _ _ _), ChS.of_below (below3 w _ _ _)⟩
  by_cases hn2 : 2000 < n
  · clear hc
    go_wp2_with fail
    refine bodyPost_ret (v := .agg #[.int .i64 1, .int .i64 0, .int .i64 0, .bool false, .bool false]) ?_ rfl ?_
    · exact results_cell_row (t := 32) rfl _ _ (w.heap.size + 1) _ (fr := (0, 0)) _ rfl (bk_new3' w _ _ _).1 Try.underlying32 rfl infoPObs
    · exact ⟨rfl, HH.out.1.below (below3 w _ _ _), ChS.of_below (below3 w _ _ _)⟩
  by_cases hk : k < 1
  · clear hc
    go_wp2_with fail
    refine bodyPost_ret (v := .agg #[.int .i64 1, .int .i64 0, .int .i64 0, .bool false, .bool false]) ?_ rfl ?_
    · exact results_cell_row (t := 32) rfl _ _ (w.heap.size + 1) _ (fr := (0, 0)) _ rfl (bk_new3' w _ _ _).1 Try.underlying32 rfl infoPObs
    · exact ⟨rfl, HH.out.1.below (below3 w _ _ _), ChS.of_below (below3 w _ _ _)⟩
  by_cases hk4 : 4 < k
  · clear hc
    go_wp2_with fail
    refine bodyPost_ret (v := .agg #[.int .i64 1, .int .i64 0, .int .i64 0, .bool false, .bool false]) ?_ rfl ?_
    · exact results_cell_row (t := 32) rfl _ _ (w.heap.size + 1) _ (fr := (0, 0)) _ rfl (bk_new3' w _ _ _).1 Try.underlying32 rfl infoPObs
    · exact ⟨rfl, HH.out.1.below (below3 w _ _ _), ChS.of_below (below3 w _ _ _)⟩
  have hk3 : 3 ≤ k := by omega
  have hd : ((dn : Int) != 8) = true := by simp; omega
  clear hc
  · go_wp2_with fail
    refine bodyPost_ret (v := .agg #[.int .i64 1, .int .i64 0, .int .i64 0, .bool false, .bool false]) ?_ rfl ?_
    · exact results_cell_row (t := 32) rfl _ _ (w.heap.size + 1) _ (fr := (0, 0)) _ rfl (bk_new3' w _ _ _).1 Try.underlying32 rfl infoPObs
    · exact ⟨rfl, HH.out.1.below (below3 w _ _ _), ChS.of_below (below3 w _ _ _)⟩
set_option maxRecDepth 20000 in
set_option maxHeartbeats 4000000 in
theorem do_came0 (x c1 c2 c3 base : Nat) (m : PX) (o : SPathOp) (dv : Value) (i : Nat) (w : World) (h : MRp w x c1 c2 c3 base m) (hI : PXI i m) (hi : i < 300) (hr : Row w .u8 dv o.f3) (hl : o.f3.length ≤ 1048576) (hbase : base ≤ w.heap.size) (hby : ∀ x ∈ o.f3, 0 ≤ x ∧ x < 256)
    (hc : ¬ (o.f2 < 0 ∨ 255 < o.f2 ∨ o.f1 < 0 ∨ 2000 < o.f1)) (hk : o.f0 = 1) (hs : m.srv = false ∧ o.f2 ≠ (m.ad : Int)) :
    Calls Try.prog 14 #[.pointer (some ⟨x, 0, none⟩), .agg #[.int .i64 o.f0, .int .i64 o.f1, .int .i64 o.f2, dv]] w fun e w' => e = .returned (.agg #[.int .i64 (pstep m o).2.1, .int .i64 0, .int .i64 0, .bool false, .bool (pstep m o).2.2]) ∧ MDo x c1 c2 c3 base w w' (pstep m o).1 := by
  obtain ⟨k, n, a, D⟩ := o
  dsimp only at *
  obtain ⟨A, rfl⟩ : ∃ A : Nat, a = (A : Int) := ⟨a.toNat, by omega⟩
  have hA : A < 256 := by omega
  have hAI : (A : Int) < 256 := by omega
  have hn : 0 ≤ n ∧ n ≤ 2000 := by omega
  subst hk
  have es : pstep m ⟨1, n, (A : Int), D⟩ = (m, 7, false) := by
    unfold pstep
    dsimp only
    rw [if_neg hc, if_pos rfl, if_pos hs]
  rw [es]
  have h1 : ¬ (A : Int) < 0 := by omega
  have h2 : ¬ (255 : Int) < (A : Int) := by omega
  have h3 : ¬ n < 0 := by omega
  have h4 : ¬ 2000 < n := by omega
  have ha := hI.ad
  obtain ⟨wv, Z, hM⟩ := id h
  obtain ⟨d0, d1, d2, d3, d4, d5⟩ := hM.cells
  have hx := (Array.getElem?_eq_some_iff.1 hM.bk).1
  have l1 := hM.r1.lt
  have l2 := hM.r2.lt
  have l3 := hM.r3.lt
  obtain ⟨W0, eW0⟩ : ∃ W0, W0 = ((w.alloc (.cells #[.int .i64 1, .int .i64 n, .int .i64 (A : Int), dv] 34)).alloc (.cells #[.int .i64 0, .int .i64 0, .int .i64 0, .bool false, .bool false] 32)).alloc (.cells #[.int .i64 0, .int .i64 0, .int .i64 0, .bool false, .bool false] 32) := ⟨_, rfl⟩
  have bW0 : Below w.heap.size w W0 := by rw [eW0]; exact below3 w _ _ _
  obtain ⟨e0, e1, e2, e3, e4, e5⟩ := (hM.below bW0).cells
  have kW : W0.heap[w.heap.size]? = some (.cells #[.int .i64 1, .int .i64 n, .int .i64 (A : Int), dv] 34 (0, 0)) := by rw [eW0]; exact (bk_new3 w _ _ _).1
  have p1 : W0.cell? ⟨w.heap.size, 1, none⟩ = some (.int .i64 n) := (bk_cell kW 1).trans rfl
  have p2 : W0.cell? ⟨w.heap.size, 2, none⟩ = some (.int .i64 (A : Int)) := (bk_cell kW 2).trans rfl
  have p3 : W0.cell? ⟨w.heap.size, 3, none⟩ = some dv := (bk_cell kW 3).trans rfl
  have HB : Hid _ := And.intro bW0 (And.intro (hM.below bW0) kW)
  rw [eW0] at HB e0 e1 e2 e3 e4 p1 p2 p3
  clear bW0 kW e5 eW0
  rw [hs.1] at d0 e0
  have hne : ((A : Int) != (m.ad : Int)) = true := by simpa using hs.2
  obtain ⟨ao, cp, ev⟩ := hr.form
  generalize D.length = dn at *
  generalize m.ad = ad at *
  clear h hI hr es hby hl hM hc hs hn d2 d3 d4 d5 e2 e3 e4 p1 p3
  subst ev
  go_enter Try.func14, Try.ntmps14
  go_wp2_with fail
  go_quiet (fail)
  go_wp2_with fail
  have T0 : ObM x c1 c2 c3 base w _ m #[.int .i64 0, .int .i64 0, .int .i64 0, .bool false, .bool false] #[.int .i64 0, .int .i64 0, .int .i64 0, .bool false, .bool false] := ⟨⟨wv, Z, HB.out.2.1.below (below_drewN (Below.refl _ _) nq)⟩, (ChS.of_below HB.out.1).drewN nq, (bk_new3' w _ _ _).1, (bk_new3' w _ _ _).2⟩
  have T := ((((((T0).s2 0 (.int .i64 7)).s1 0 (.int .i64 7)).s1 1 (.int .i64 0)).s1 2 (.int .i64 0)).s1 3 (.bool false)).s1 4 (.bool false)
  refine bodyPost_ret (v := .agg #[.int .i64 7, .int .i64 0, .int .i64 0, .bool false, .bool false]) ?_ rfl ?_
  · exact results_cell_row (t := 32) rfl _ _ (w.heap.size + 1) _ (fr := (0, 0)) _ rfl (T.h1.trans rfl) Try.underlying32 rfl infoPObs
  · exact ⟨rfl, T.P, T.C⟩
set_option maxRecDepth 20000 in
set_option maxHeartbeats 4000000 in
theorem do_came1 (x c1 c2 c3 base : Nat) (m : PX) (o : SPathOp) (dv : Value) (i : Nat) (w : World) (h : MRp w x c1 c2 c3 base m) (hI : PXI i m) (hi : i < 300) (hr : Row w .u8 dv o.f3) (hl : o.f3.length ≤ 1048576) (hbase : base ≤ w.heap.size) (hby : ∀ x ∈ o.f3, 0 ≤ x ∧ x < 256)
    (hc : ¬ (o.f2 < 0 ∨ 255 < o.f2 ∨ o.f1 < 0 ∨ 2000 < o.f1)) (hk : o.f0 = 1) (hs : m.srv = true) :
    Calls Try.prog 14 #[.pointer (some ⟨x, 0, none⟩), .agg #[.int .i64 o.f0, .int .i64 o.f1, .int .i64 o.f2, dv]] w fun e w' => e = .returned (.agg #[.int .i64 (pstep m o).2.1, .int .i64 0, .int .i64 0, .bool false, .bool (pstep m o).2.2]) ∧ MDo x c1 c2 c3 base w w' (pstep m o).1 := by
  obtain ⟨k, n, a, D⟩ := o
  dsimp only at *
  obtain ⟨A, rfl⟩ : ∃ A : Nat, a = (A : Int) := ⟨a.toNat, by omega⟩
  have hA : A < 256 := by omega
  have hAI : (A : Int) < 256 := by omega
  have hn : 0 ≤ n ∧ n ≤ 2000 := by omega
  subst hk
  have es : pstep m ⟨1, n, (A : Int), D⟩ = ({ m with ad := A, cm := updF m.cm A (m.cm A + n) }, 0, false) := by
    unfold pstep
    dsimp only
    rw [if_neg hc, if_pos rfl, if_neg (by first | (rw [hs]; simp) | (exact fun q => q.2 hs.2))]
    rfl
  rw [es]
  have h1 : ¬ (A : Int) < 0 := by omega
  have h2 : ¬ (255 : Int) < (A : Int) := by omega
  have h3 : ¬ n < 0 := by omega
  have h4 : ¬ 2000 < n := by omega
  have ha := hI.ad
  obtain ⟨wv, Z, hM⟩ := id h
  obtain ⟨d0, d1, d2, d3, d4, d5⟩ := hM.cells
  have hx := (Array.getElem?_eq_some_iff.1 hM.bk).1
  have l1 := hM.r1.lt
  have l2 := hM.r2.lt
  have l3 := hM.r3.lt
  obtain ⟨W0, eW0⟩ : ∃ W0, W0 = ((w.alloc (.cells #[.int .i64 1, .int .i64 n, .int .i64 (A : Int), dv] 34)).alloc (.cells #[.int .i64 0, .int .i64 0, .int .i64 0, .bool false, .bool false] 32)).alloc (.cells #[.int .i64 0, .int .i64 0, .int .i64 0, .bool false, .bool false] 32) := ⟨_, rfl⟩
  have bW0 : Below w.heap.size w W0 := by rw [eW0]; exact below3 w _ _ _
  obtain ⟨e0, e1, e2, e3, e4, e5⟩ := (hM.below bW0).cells
  have kW : W0.heap[w.heap.size]? = some (.cells #[.int .i64 1, .int .i64 n, .int .i64 (A : Int), dv] 34 (0, 0)) := by rw [eW0]; exact (bk_new3 w _ _ _).1
  have p1 : W0.cell? ⟨w.heap.size, 1, none⟩ = some (.int .i64 n) := (bk_cell kW 1).trans rfl
  have p2 : W0.cell? ⟨w.heap.size, 2, none⟩ = some (.int .i64 (A : Int)) := (bk_cell kW 2).trans rfl
  have p3 : W0.cell? ⟨w.heap.size, 3, none⟩ = some dv := (bk_cell kW 3).trans rfl
  have HB : Hid _ := And.intro bW0 (And.intro (hM.below bW0) kW)
  rw [eW0] at HB e0 e1 e2 e3 e4 p1 p2 p3
  clear bW0 kW e5 eW0
  rw [hs] at d0 e0
  have hMW := HB.out.2.1
  have y1 := hMW.r1.cell A hA
  have g1 := hMW.r1.free A
  have gx := bk_free hMW.bk 1
  have hcm := hI.cm A
  have hlo := hM.lo
  obtain ⟨n1, n2, n3, n4, n5⟩ := hM.x12
  have n1' : ¬ c1 = x := fun e => n1 e.symm
  have HZ : Hid _ := And.intro hMW.zs (And.intro hMW.of (And.intro hMW.ow hMW))
  obtain ⟨cx, ecx⟩ : ∃ cx, cx = m.cm A := ⟨_, rfl⟩
  rw [← ecx] at y1 hcm ⊢
  have hcm0 := hcm.1
  have hcm1 : cx ≤ 600000 := by omega
  have HE : Hid _ := ecx
  obtain ⟨ao, cp, ev⟩ := hr.form
  generalize D.length = dn at *
  clear h hI hr es hby hl hM hc hs hn d3 d4 d5 e3 e4 p3 hMW hcm ecx
  subst ev
  go_enter Try.func14, Try.ntmps14
  go_wp2_with fail
  go_quiet (fail)
  go_wp2_with fail
  go_region
  go_wp2_with fail
  have Ma := (HB.out.2.1.below (below_drewN (Below.refl _ _) nq)).setX 1 (.int .i64 (A : Int)) (m' := { m with ad := A }) (wv' := wv) (Z' := Z) rfl rfl rfl rfl HZ.out.1 HZ.out.2.1 HZ.out.2.2.1
  have Mb := Ma.setC A (cx + n)
  have T0 : ObM x c1 c2 c3 base w _ { m with ad := A, cm := updF m.cm A (cx + n) } #[.int .i64 0, .int .i64 0, .int .i64 0, .bool false, .bool false] #[.int .i64 0, .int .i64 0, .int .i64 0, .bool false, .bool false] := ⟨⟨wv, Z, Mb⟩, (((ChS.of_below HB.out.1).drewN nq).setK x (Or.inl rfl) hlo.1 1 (.int .i64 (A : Int))).setK c1 (Or.inr (Or.inl rfl)) hlo.2.1 A (.int .i64 (cx + n)), (bk_other (by omega) _ _).trans ((bk_other (by omega) _ _).trans (bk_new3' w _ _ _).1), (bk_other (by omega) _ _).trans ((bk_other (by omega) _ _).trans (bk_new3' w _ _ _).2)⟩
  have T := ((((((T0).s1 0 (.int .i64 0)).s1 1 (.int .i64 0)).s1 2 (.int .i64 0)).s1 3 (.bool false)).s1 4 (.bool false)).drew
  refine bodyPost_ret (v := .agg #[.int .i64 0, .int .i64 0, .int .i64 0, .bool false, .bool false]) ?_ rfl ?_
  · exact results_cell_row (t := 32) rfl _ _ (w.heap.size + 1) _ (fr := (0, 0)) _ rfl (T.h1.trans rfl) Try.underlying32 rfl infoPObs
  · exact ⟨rfl, T.P, T.C⟩
set_option maxRecDepth 20000 in
set_option maxHeartbeats 4000000 in
theorem do_came2 (x c1 c2 c3 base : Nat) (m : PX) (o : SPathOp) (dv : Value) (i : Nat) (w : World) (h : MRp w x c1 c2 c3 base m) (hI : PXI i m) (hi : i < 300) (hr : Row w .u8 dv o.f3) (hl : o.f3.length ≤ 1048576) (hbase : base ≤ w.heap.size) (hby : ∀ x ∈ o.f3, 0 ≤ x ∧ x < 256)
    (hc : ¬ (o.f2 < 0 ∨ 255 < o.f2 ∨ o.f1 < 0 ∨ 2000 < o.f1)) (hk : o.f0 = 1) (hs : m.srv = false ∧ o.f2 = (m.ad : Int)) :
    Calls Try.prog 14 #[.pointer (some ⟨x, 0, none⟩), .agg #[.int .i64 o.f0, .int .i64 o.f1, .int .i64 o.f2, dv]] w fun e w' => e = .returned (.agg #[.int .i64 (pstep m o).2.1, .int .i64 0, .int .i64 0, .bool false, .bool (pstep m o).2.2]) ∧ MDo x c1 c2 c3 base w w' (pstep m o).1 := by
  obtain ⟨k, n, a, D⟩ := o
  dsimp only at *
  obtain ⟨A, rfl⟩ : ∃ A : Nat, a = (A : Int) := ⟨a.toNat, by omega⟩
  have hA : A < 256 := by omega
  have hAI : (A : Int) < 256 := by omega
  have hn : 0 ≤ n ∧ n ≤ 2000 := by omega
  subst hk
  have es : pstep m ⟨1, n, (A : Int), D⟩ = ({ m with ad := A, cm := updF m.cm A (m.cm A + n) }, 0, false) := by
    unfold pstep
    dsimp only
    rw [if_neg hc, if_pos rfl, if_neg (by first | (rw [hs]; simp) | (exact fun q => q.2 hs.2))]
    rfl
  rw [es]
  have h1 : ¬ (A : Int) < 0 := by omega
  have h2 : ¬ (255 : Int) < (A : Int) := by omega
  have h3 : ¬ n < 0 := by omega
  have h4 : ¬ 2000 < n := by omega
  have ha := hI.ad
  obtain ⟨wv, Z, hM⟩ := id h
  obtain ⟨d0, d1, d2, d3, d4, d5⟩ := hM.cells
  have hx := (Array.getElem?_eq_some_iff.1 hM.bk).1
  have l1 := hM.r1.lt
  have l2 := hM.r2.lt
  have l3 := hM.r3.lt
  obtain ⟨W0, eW0⟩ : ∃ W0, W0 = ((w.alloc (.cells #[.int .i64 1, .int .i64 n, .int .i64 (A : Int), dv] 34)).alloc (.cells #[.int .i64 0, .int .i64 0, .int .i64 0, .bool false, .bool false] 32)).alloc (.cells #[.int .i64 0, .int .i64 0, .int .i64 0, .bool false, .bool false] 32) := ⟨_, rfl⟩
  have bW0 : Below w.heap.size w W0 := by rw [eW0]; exact below3 w _ _ _
  obtain ⟨e0, e1, e2, e3, e4, e5⟩ := (hM.below bW0).cells
  have kW : W0.heap[w.heap.size]? = some (.cells #[.int .i64 1, .int .i64 n, .int .i64 (A : Int), dv] 34 (0, 0)) := by rw [eW0]; exact (bk_new3 w _ _ _).1
  have p1 : W0.cell? ⟨w.heap.size, 1, none⟩ = some (.int .i64 n) := (bk_cell kW 1).trans rfl
  have p2 : W0.cell? ⟨w.heap.size, 2, none⟩ = some (.int .i64 (A : Int)) := (bk_cell kW 2).trans rfl
  have p3 : W0.cell? ⟨w.heap.size, 3, none⟩ = some dv := (bk_cell kW 3).trans rfl
  have HB : Hid _ := And.intro bW0 (And.intro (hM.below bW0) kW)
  rw [eW0] at HB e0 e1 e2 e3 e4 p1 p2 p3
  clear bW0 kW e5 eW0
  rw [hs.1] at d0 e0
  have hne : ((A : Int) != (m.ad : Int)) = false := by simpa using hs.2
  have hMW := HB.out.2.1
  have y1 := hMW.r1.cell A hA
  have g1 := hMW.r1.free A
  have gx := bk_free hMW.bk 1
  have hcm := hI.cm A
  have hlo := hM.lo
  obtain ⟨n1, n2, n3, n4, n5⟩ := hM.x12
  have n1' : ¬ c1 = x := fun e => n1 e.symm
  have HZ : Hid _ := And.intro hMW.zs (And.intro hMW.of (And.intro hMW.ow hMW))
  obtain ⟨cx, ecx⟩ : ∃ cx, cx = m.cm A := ⟨_, rfl⟩
  rw [← ecx] at y1 hcm ⊢
  have hcm0 := hcm.1
  have hcm1 : cx ≤ 600000 := by omega
  have HE : Hid _ := ecx
  obtain ⟨ao, cp, ev⟩ := hr.form
  generalize D.length = dn at *
  clear h hI hr es hby hl hM hc hs hn d3 d4 d5 e3 e4 p3 hMW hcm ecx
  subst ev
  go_enter Try.func14, Try.ntmps14
  go_wp2_with fail
  go_quiet (fail)
  go_wp2_with fail
  go_region
  go_wp2_with fail
  have Ma := (HB.out.2.1.below (below_drewN (Below.refl _ _) nq)).setX 1 (.int .i64 (A : Int)) (m' := { m with ad := A }) (wv' := wv) (Z' := Z) rfl rfl rfl rfl HZ.out.1 HZ.out.2.1 HZ.out.2.2.1
  have Mb := Ma.setC A (cx + n)
  have T0 : ObM x c1 c2 c3 base w _ { m with ad := A, cm := updF m.cm A (cx + n) } #[.int .i64 0, .int .i64 0, .int .i64 0, .bool false, .bool false] #[.int .i64 0, .int .i64 0, .int .i64 0, .bool false, .bool false] := ⟨⟨wv, Z, Mb⟩, (((ChS.of_below HB.out.1).drewN nq).setK x (Or.inl rfl) hlo.1 1 (.int .i64 (A : Int))).setK c1 (Or.inr (Or.inl rfl)) hlo.2.1 A (.int .i64 (cx + n)), (bk_other (by omega) _ _).trans ((bk_other (by omega) _ _).trans (bk_new3' w _ _ _).1), (bk_other (by omega) _ _).trans ((bk_other (by omega) _ _).trans (bk_new3' w _ _ _).2)⟩
  have T := ((((((T0).s1 0 (.int .i64 0)).s1 1 (.int .i64 0)).s1 2 (.int .i64 0)).s1 3 (.bool false)).s1 4 (.bool false)).drew
  refine bodyPost_ret (v := .agg #[.int .i64 0, .int .i64 0, .int .i64 0, .bool false, .bool false]) ?_ rfl ?_
  · exact results_cell_row (t := 32) rfl _ _ (w.heap.size + 1) _ (fr := (0, 0)) _ rfl (T.h1.trans rfl) Try.underlying32 rfl infoPObs
  · exact ⟨rfl, T.P, T.C⟩
set_option maxRecDepth 20000 in
set_option maxHeartbeats 4000000 in
theorem do_send0 (x c1 c2 c3 base : Nat) (m : PX) (o : SPathOp) (dv : Value) (i : Nat) (w : World) (h : MRp w x c1 c2 c3 base m) (hI : PXI i m) (hi : i < 300) (hr : Row w .u8 dv o.f3) (hl : o.f3.length ≤ 1048576) (hbase : base ≤ w.heap.size) (hby : ∀ x ∈ o.f3, 0 ≤ x ∧ x < 256)
    (hc : ¬ (o.f2 < 0 ∨ 255 < o.f2 ∨ o.f1 < 0 ∨ 2000 < o.f1)) (hk : o.f0 = 2) (hs : m.may < o.f1) :
    Calls Try.prog 14 #[.pointer (some ⟨x, 0, none⟩), .agg #[.int .i64 o.f0, .int .i64 o.f1, .int .i64 o.f2, dv]] w fun e w' => e = .returned (.agg #[.int .i64 (pstep m o).2.1, .int .i64 0, .int .i64 0, .bool false, .bool (pstep m o).2.2]) ∧ MDo x c1 c2 c3 base w w' (pstep m o).1 := by
  obtain ⟨k, n, a, D⟩ := o
  dsimp only at *
  obtain ⟨A, rfl⟩ : ∃ A : Nat, a = (A : Int) := ⟨a.toNat, by omega⟩
  have hA : A < 256 := by omega
  have hAI : (A : Int) < 256 := by omega
  have hn : 0 ≤ n ∧ n ≤ 2000 := by omega
  subst hk
  have es : pstep m ⟨2, n, (A : Int), D⟩ = (m, 8, false) := by
    unfold pstep
    dsimp only
    rw [if_neg hc, if_neg (by omega), if_pos rfl, if_pos hs]
  rw [es]
  have h1 : ¬ (A : Int) < 0 := by omega
  have h2 : ¬ (255 : Int) < (A : Int) := by omega
  have h3 : ¬ n < 0 := by omega
  have h4 : ¬ 2000 < n := by omega
  have ha := hI.ad
  obtain ⟨wv, Z, hM⟩ := id h
  obtain ⟨d0, d1, d2, d3, d4, d5⟩ := hM.cells
  have hx := (Array.getElem?_eq_some_iff.1 hM.bk).1
  have l1 := hM.r1.lt
  have l2 := hM.r2.lt
  have l3 := hM.r3.lt
  obtain ⟨W0, eW0⟩ : ∃ W0, W0 = ((w.alloc (.cells #[.int .i64 2, .int .i64 n, .int .i64 (A : Int), dv] 34)).alloc (.cells #[.int .i64 0, .int .i64 0, .int .i64 0, .bool false, .bool false] 32)).alloc (.cells #[.int .i64 0, .int .i64 0, .int .i64 0, .bool false, .bool false] 32) := ⟨_, rfl⟩
  have bW0 : Below w.heap.size w W0 := by rw [eW0]; exact below3 w _ _ _
  obtain ⟨e0, e1, e2, e3, e4, e5⟩ := (hM.below bW0).cells
  have kW : W0.heap[w.heap.size]? = some (.cells #[.int .i64 2, .int .i64 n, .int .i64 (A : Int), dv] 34 (0, 0)) := by rw [eW0]; exact (bk_new3 w _ _ _).1
  have p1 : W0.cell? ⟨w.heap.size, 1, none⟩ = some (.int .i64 n) := (bk_cell kW 1).trans rfl
  have p2 : W0.cell? ⟨w.heap.size, 2, none⟩ = some (.int .i64 (A : Int)) := (bk_cell kW 2).trans rfl
  have p3 : W0.cell? ⟨w.heap.size, 3, none⟩ = some dv := (bk_cell kW 3).trans rfl
  have HB : Hid _ := And.intro bW0 (And.intro (hM.below bW0) kW)
  rw [eW0] at HB e0 e1 e2 e3 e4 p1 p2 p3
  clear bW0 kW e5 eW0
  have CM : ∀ W : World, Below w.heap.size w W → Calls Try.prog 15 #[.pointer (some ⟨x, 0, none⟩)] W fun e w' => e = .returned (.int .i64 m.may) ∧ ∃ n, w' = W.drewN n := fun W hW => mayM x c1 c2 c3 base m wv Z i W (hM.below hW) hI (by omega)
  have hmb := hI.may (by omega)
  obtain ⟨mm, emm⟩ : ∃ mm, mm = m.may := ⟨_, rfl⟩
  rw [← emm] at CM hs hmb
  have HM : Hid _ := And.intro CM emm
  obtain ⟨ao, cp, ev⟩ := hr.form
  generalize D.length = dn at *
  clear h hI hr es hby hl hM hc hn d2 d3 d4 d5 e2 e3 e4 p2 p3 CM emm hmb
  subst ev
  go_enter Try.func14, Try.ntmps14
  go_wp2_with fail
  go_quiet (first | (go_at_call 15; exact Calls.quiet_of (HM.out.1 _ (below_drewN (below3 w _ _ _) _))))
  go_wp2_with fail
  have T0 : ObM x c1 c2 c3 base w _ m #[.int .i64 0, .int .i64 0, .int .i64 0, .bool false, .bool false] #[.int .i64 0, .int .i64 0, .int .i64 0, .bool false, .bool false] := ⟨⟨wv, Z, HB.out.2.1.below (below_drewN (Below.refl _ _) nq)⟩, (ChS.of_below HB.out.1).drewN nq, (bk_new3' w _ _ _).1, (bk_new3' w _ _ _).2⟩
  have T := ((((((T0).s2 0 (.int .i64 8)).s1 0 (.int .i64 8)).s1 1 (.int .i64 0)).s1 2 (.int .i64 0)).s1 3 (.bool false)).s1 4 (.bool false)
  refine bodyPost_ret (v := .agg #[.int .i64 8, .int .i64 0, .int .i64 0, .bool false, .bool false]) ?_ rfl ?_
  · exact results_cell_row (t := 32) rfl _ _ (w.heap.size + 1) _ (fr := (0, 0)) _ rfl (T.h1.trans rfl) Try.underlying32 rfl infoPObs
  · exact ⟨rfl, T.P, T.C⟩
set_option maxRecDepth 20000 in
set_option maxHeartbeats 4000000 in
theorem do_send1 (x c1 c2 c3 base : Nat) (m : PX) (o : SPathOp) (dv : Value) (i : Nat) (w : World) (h : MRp w x c1 c2 c3 base m) (hI : PXI i m) (hi : i < 300) (hr : Row w .u8 dv o.f3) (hl : o.f3.length ≤ 1048576) (hbase : base ≤ w.heap.size) (hby : ∀ x ∈ o.f3, 0 ≤ x ∧ x < 256)
    (hc : ¬ (o.f2 < 0 ∨ 255 < o.f2 ∨ o.f1 < 0 ∨ 2000 < o.f1)) (hk : o.f0 = 2) (hs : ¬ m.may < o.f1) :
    Calls Try.prog 14 #[.pointer (some ⟨x, 0, none⟩), .agg #[.int .i64 o.f0, .int .i64 o.f1, .int .i64 o.f2, dv]] w fun e w' => e = .returned (.agg #[.int .i64 (pstep m o).2.1, .int .i64 0, .int .i64 0, .bool false, .bool (pstep m o).2.2]) ∧ MDo x c1 c2 c3 base w w' (pstep m o).1 := by
  obtain ⟨k, n, a, D⟩ := o
  dsimp only at *
  obtain ⟨A, rfl⟩ : ∃ A : Nat, a = (A : Int) := ⟨a.toNat, by omega⟩
  have hA : A < 256 := by omega
  have hAI : (A : Int) < 256 := by omega
  have hn : 0 ≤ n ∧ n ≤ 2000 := by omega
  subst hk
  have es : pstep m ⟨2, n, (A : Int), D⟩ = ({ m with st := updF m.st m.ad (m.st m.ad + n) }, 0, false) := by
    unfold pstep
    dsimp only
    rw [if_neg hc, if_neg (by omega), if_pos rfl, if_neg hs]
  rw [es]
  have h1 : ¬ (A : Int) < 0 := by omega
  have h2 : ¬ (255 : Int) < (A : Int) := by omega
  have h3 : ¬ n < 0 := by omega
  have h4 : ¬ 2000 < n := by omega
  have ha := hI.ad
  obtain ⟨wv, Z, hM⟩ := id h
  obtain ⟨d0, d1, d2, d3, d4, d5⟩ := hM.cells
  have hx := (Array.getElem?_eq_some_iff.1 hM.bk).1
  have l1 := hM.r1.lt
  have l2 := hM.r2.lt
  have l3 := hM.r3.lt
  obtain ⟨W0, eW0⟩ : ∃ W0, W0 = ((w.alloc (.cells #[.int .i64 2, .int .i64 n, .int .i64 (A : Int), dv] 34)).alloc (.cells #[.int .i64 0, .int .i64 0, .int .i64 0, .bool false, .bool false] 32)).alloc (.cells #[.int .i64 0, .int .i64 0, .int .i64 0, .bool false, .bool false] 32) := ⟨_, rfl⟩
  have bW0 : Below w.heap.size w W0 := by rw [eW0]; exact below3 w _ _ _
  obtain ⟨e0, e1, e2, e3, e4, e5⟩ := (hM.below bW0).cells
  have kW : W0.heap[w.heap.size]? = some (.cells #[.int .i64 2, .int .i64 n, .int .i64 (A : Int), dv] 34 (0, 0)) := by rw [eW0]; exact (bk_new3 w _ _ _).1
  have p1 : W0.cell? ⟨w.heap.size, 1, none⟩ = some (.int .i64 n) := (bk_cell kW 1).trans rfl
  have p2 : W0.cell? ⟨w.heap.size, 2, none⟩ = some (.int .i64 (A : Int)) := (bk_cell kW 2).trans rfl
  have p3 : W0.cell? ⟨w.heap.size, 3, none⟩ = some dv := (bk_cell kW 3).trans rfl
  have HB : Hid _ := And.intro bW0 (And.intro (hM.below bW0) kW)
  rw [eW0] at HB e0 e1 e2 e3 e4 p1 p2 p3
  clear bW0 kW e5 eW0
  have CM : ∀ W : World, Below w.heap.size w W → Calls Try.prog 15 #[.pointer (some ⟨x, 0, none⟩)] W fun e w' => e = .returned (.int .i64 m.may) ∧ ∃ n, w' = W.drewN n := fun W hW => mayM x c1 c2 c3 base m wv Z i W (hM.below hW) hI (by omega)
  have hmb := hI.may (by omega)
  obtain ⟨mm, emm⟩ : ∃ mm, mm = m.may := ⟨_, rfl⟩
  rw [← emm] at CM hs hmb
  have HM : Hid _ := And.intro CM emm
  have hMW := HB.out.2.1
  have y1 := hMW.r2.cell m.ad ha
  have g1 := hMW.r2.free m.ad
  have hcm := hI.st m.ad
  have hlo := hM.lo
  have HZ : Hid _ := hMW
  obtain ⟨cx, ecx⟩ : ∃ cx, cx = m.st m.ad := ⟨_, rfl⟩
  rw [← ecx] at y1 hcm ⊢
  have hcm0 := hcm.1
  have hcm1 : cx ≤ 600000 := by omega
  have hadI : (m.ad : Int) < 256 := by omega
  obtain ⟨ad, ead⟩ : ∃ ad, ad = m.ad := ⟨_, rfl⟩
  rw [← ead] at y1 g1 hadI e1 ha d1 ⊢
  have HE : Hid _ := And.intro ecx ead
  obtain ⟨ao, cp, ev⟩ := hr.form
  generalize D.length = dn at *
  clear h hI hr es hby hl hM hc hn d2 d3 d4 d5 e2 e4 p2 p3 hMW hcm ecx CM emm hmb ead
  subst ev
  go_enter Try.func14, Try.ntmps14
  go_wp2_with fail
  go_quiet (first | (go_at_call 15; exact Calls.quiet_of (HM.out.1 _ (below_drewN (below3 w _ _ _) _))))
  go_wp2_with fail
  go_region
  go_wp2_with fail
  have ead := HE.out.2
  subst ead
  have Mb := (HB.out.2.1.below (below_drewN (Below.refl _ _) (nq + 1))).setS m.ad (cx + n)
  have T0 : ObM x c1 c2 c3 base w _ { m with st := updF m.st m.ad (cx + n) } #[.int .i64 0, .int .i64 0, .int .i64 0, .bool false, .bool false] #[.int .i64 0, .int .i64 0, .int .i64 0, .bool false, .bool false] := ⟨⟨wv, Z, Mb⟩, ((ChS.of_below HB.out.1).drewN (nq + 1)).setK c2 (Or.inr (Or.inr (Or.inl rfl))) hlo.2.2.1 m.ad (.int .i64 (cx + n)), (bk_other (by omega) _ _).trans (bk_new3' w _ _ _).1, (bk_other (by omega) _ _).trans (bk_new3' w _ _ _).2⟩
  have T := (((((T0).s1 0 (.int .i64 0)).s1 1 (.int .i64 0)).s1 2 (.int .i64 0)).s1 3 (.bool false)).s1 4 (.bool false)
  refine bodyPost_ret (v := .agg #[.int .i64 0, .int .i64 0, .int .i64 0, .bool false, .bool false]) ?_ rfl ?_
  · exact results_cell_row (t := 32) rfl _ _ (w.heap.size + 1) _ (fr := (0, 0)) _ rfl (T.h1.trans rfl) Try.underlying32 rfl infoPObs
  · exact ⟨rfl, T.P, T.C⟩
set_option maxRecDepth 20000 in
set_option maxHeartbeats 4000000 in
theorem do_chal (x c1 c2 c3 base : Nat) (m : PX) (o : SPathOp) (dv : Value) (i : Nat) (w : World) (h : MRp w x c1 c2 c3 base m) (hI : PXI i m) (hi : i < 300) (hr : Row w .u8 dv o.f3) (hl : o.f3.length ≤ 1048576) (hbase : base ≤ w.heap.size) (hby : ∀ x ∈ o.f3, 0 ≤ x ∧ x < 256)
    (hc : ¬ (o.f2 < 0 ∨ 255 < o.f2 ∨ o.f1 < 0 ∨ 2000 < o.f1)) (hk : o.f0 = 3) (hs : o.f3.length = 8) :
    Calls Try.prog 14 #[.pointer (some ⟨x, 0, none⟩), .agg #[.int .i64 o.f0, .int .i64 o.f1, .int .i64 o.f2, dv]] w fun e w' => e = .returned (.agg #[.int .i64 (pstep m o).2.1, .int .i64 0, .int .i64 0, .bool false, .bool (pstep m o).2.2]) ∧ MDo x c1 c2 c3 base w w' (pstep m o).1 := by
  obtain ⟨k, n, a, D⟩ := o
  dsimp only at *
  obtain ⟨A, rfl⟩ : ∃ A : Nat, a = (A : Int) := ⟨a.toNat, by omega⟩
  have hA : A < 256 := by omega
  have hAI : (A : Int) < 256 := by omega
  have hn : 0 ≤ n ∧ n ≤ 2000 := by omega
  subst hk
  have es : pstep m ⟨3, n, (A : Int), D⟩ = ({ m with ws := wpush m.ws (D, m.ad) }, 0, false) := by
    unfold pstep
    dsimp only
    rw [if_neg hc, if_neg (by omega), if_neg (by omega), if_pos rfl, if_neg (by omega)]
  rw [es]
  have h1 : ¬ (A : Int) < 0 := by omega
  have h2 : ¬ (255 : Int) < (A : Int) := by omega
  have h3 : ¬ n < 0 := by omega
  have h4 : ¬ 2000 < n := by omega
  have ha := hI.ad
  obtain ⟨wv, Z, hM⟩ := id h
  obtain ⟨d0, d1, d2, d3, d4, d5⟩ := hM.cells
  have hx := (Array.getElem?_eq_some_iff.1 hM.bk).1
  have l1 := hM.r1.lt
  have l2 := hM.r2.lt
  have l3 := hM.r3.lt
  obtain ⟨W0, eW0⟩ : ∃ W0, W0 = ((w.alloc (.cells #[.int .i64 3, .int .i64 n, .int .i64 (A : Int), dv] 34)).alloc (.cells #[.int .i64 0, .int .i64 0, .int .i64 0, .bool false, .bool false] 32)).alloc (.cells #[.int .i64 0, .int .i64 0, .int .i64 0, .bool false, .bool false] 32) := ⟨_, rfl⟩
  have bW0 : Below w.heap.size w W0 := by rw [eW0]; exact below3 w _ _ _
  obtain ⟨e0, e1, e2, e3, e4, e5⟩ := (hM.below bW0).cells
  have kW : W0.heap[w.heap.size]? = some (.cells #[.int .i64 3, .int .i64 n, .int .i64 (A : Int), dv] 34 (0, 0)) := by rw [eW0]; exact (bk_new3 w _ _ _).1
  have p1 : W0.cell? ⟨w.heap.size, 1, none⟩ = some (.int .i64 n) := (bk_cell kW 1).trans rfl
  have p2 : W0.cell? ⟨w.heap.size, 2, none⟩ = some (.int .i64 (A : Int)) := (bk_cell kW 2).trans rfl
  have p3 : W0.cell? ⟨w.heap.size, 3, none⟩ = some dv := (bk_cell kW 3).trans rfl
  have HB : Hid _ := And.intro bW0 (And.intro (hM.below bW0) kW)
  rw [eW0] at HB e0 e1 e2 e3 e4 p1 p2 p3
  clear bW0 kW e5 eW0
  have hd8 : ((D.length : Int) != 8) = false := by simp; omega
  have CL := chalM x c1 c2 c3 base m dv D i _ ⟨wv, Z, HB.out.2.1⟩ hI (hr.below HB.out.1) hl (Nat.le_trans hbase HB.out.1.size)
  have HL : Hid _ := And.intro CL True.intro
  clear CL e0 e1 e2 e3 e4 d0 d1 d2 d3 d4 d5 p1 p2
  obtain ⟨m', em⟩ : ∃ m', m' = { m with ws := wpush m.ws (D, m.ad) } := ⟨_, rfl⟩
  obtain ⟨an, ean⟩ : ∃ an : Bool, an = false := ⟨_, rfl⟩
  rw [← em] at HL
  rw [← em, ← ean]
  obtain ⟨ao, cp, ev⟩ := hr.form
  generalize D.length = dn at *
  clear h hI hr es hby hl hM hc hs hn em
  subst ev
  go_enter Try.func14, Try.ntmps14
  go_wp2_with fail
  go_at_call 20
  refine HL.out.1.mono ?_
  rintro e w2 ⟨rfl, P2, C2⟩
  have nk : ∀ q, w.heap.size ≤ q → ¬ KS x c1 c2 c3 q := fun q hq e => by rcases e with e | e | e | e <;> omega
  have h21 := C2.bk (bk_new3' w _ _ _).1 (Or.inr ⟨nk _ (by omega), by decide⟩)
  have h22 := C2.bk (bk_new3' w _ _ _).2 (Or.inr ⟨nk _ (by omega), by decide⟩)
  have y0 : w2.cell? ⟨w.heap.size + 1, 0, none⟩ = some (.int .i64 0) := (bk_cell h21 0).trans rfl
  have f0 := bk_free h21 0
  have u0 : w2.cell? ⟨w.heap.size + 1 + 1, 0, none⟩ = some (.int .i64 0) := (bk_cell h22 0).trans rfl
  have v0 : w2.frozen? ⟨w.heap.size + 1 + 1, 0, none⟩ = false := bk_free h22 0
  have y1 : w2.cell? ⟨w.heap.size + 1, 1, none⟩ = some (.int .i64 0) := (bk_cell h21 1).trans rfl
  have f1 := bk_free h21 1
  have u1 : w2.cell? ⟨w.heap.size + 1 + 1, 1, none⟩ = some (.int .i64 0) := (bk_cell h22 1).trans rfl
  have v1 : w2.frozen? ⟨w.heap.size + 1 + 1, 1, none⟩ = false := bk_free h22 1
  have y2 : w2.cell? ⟨w.heap.size + 1, 2, none⟩ = some (.int .i64 0) := (bk_cell h21 2).trans rfl
  have f2 := bk_free h21 2
  have u2 : w2.cell? ⟨w.heap.size + 1 + 1, 2, none⟩ = some (.int .i64 0) := (bk_cell h22 2).trans rfl
  have v2 : w2.frozen? ⟨w.heap.size + 1 + 1, 2, none⟩ = false := bk_free h22 2
  have y3 : w2.cell? ⟨w.heap.size + 1, 3, none⟩ = some (.bool false) := (bk_cell h21 3).trans rfl
  have f3 := bk_free h21 3
  have u3 : w2.cell? ⟨w.heap.size + 1 + 1, 3, none⟩ = some (.bool false) := (bk_cell h22 3).trans rfl
  have v3 : w2.frozen? ⟨w.heap.size + 1 + 1, 3, none⟩ = false := bk_free h22 3
  have y4 : w2.cell? ⟨w.heap.size + 1, 4, none⟩ = some (.bool false) := (bk_cell h21 4).trans rfl
  have f4 := bk_free h21 4
  have u4 : w2.cell? ⟨w.heap.size + 1 + 1, 4, none⟩ = some (.bool false) := (bk_cell h22 4).trans rfl
  have v4 : w2.frozen? ⟨w.heap.size + 1 + 1, 4, none⟩ = false := bk_free h22 4
  have H2 : Hid _ := And.intro P2 (And.intro C2 (And.intro h21 h22))
  clear P2 C2 h21 h22 nk
  go_wp2_with fail
  have T0 : ObM x c1 c2 c3 base w w2 m' #[.int .i64 0, .int .i64 0, .int .i64 0, .bool false, .bool false] #[.int .i64 0, .int .i64 0, .int .i64 0, .bool false, .bool false] := ⟨H2.out.1, (ChS.of_below HB.out.1).trans H2.out.2.1, H2.out.2.2.1, H2.out.2.2.2⟩
  subst ean
  have T := (((((T0).s1 0 (.int .i64 0)).s1 1 (.int .i64 0)).s1 2 (.int .i64 0)).s1 3 (.bool false)).s1 4 (.bool false)
  refine bodyPost_ret (v := .agg #[.int .i64 0, .int .i64 0, .int .i64 0, .bool false, .bool false]) ?_ rfl ?_
  · exact results_cell_row (t := 32) rfl _ _ (w.heap.size + 1) _ (fr := (0, 0)) _ rfl (T.h1.trans rfl) Try.underlying32 rfl infoPObs
  · exact ⟨rfl, T.P, T.C⟩
set_option maxRecDepth 20000 in
set_option maxHeartbeats 4000000 in
theorem do_answ (x c1 c2 c3 base : Nat) (m : PX) (o : SPathOp) (dv : Value) (i : Nat) (w : World) (h : MRp w x c1 c2 c3 base m) (hI : PXI i m) (hi : i < 300) (hr : Row w .u8 dv o.f3) (hl : o.f3.length ≤ 1048576) (hbase : base ≤ w.heap.size) (hby : ∀ x ∈ o.f3, 0 ≤ x ∧ x < 256)
    (hc : ¬ (o.f2 < 0 ∨ 255 < o.f2 ∨ o.f1 < 0 ∨ 2000 < o.f1)) (hk : o.f0 = 4) (hs : o.f3.length = 8) :
    Calls Try.prog 14 #[.pointer (some ⟨x, 0, none⟩), .agg #[.int .i64 o.f0, .int .i64 o.f1, .int .i64 o.f2, dv]] w fun e w' => e = .returned (.agg #[.int .i64 (pstep m o).2.1, .int .i64 0, .int .i64 0, .bool false, .bool (pstep m o).2.2]) ∧ MDo x c1 c2 c3 base w w' (pstep m o).1 := by
  obtain ⟨k, n, a, D⟩ := o
  dsimp only at *
  obtain ⟨A, rfl⟩ : ∃ A : Nat, a = (A : Int) := ⟨a.toNat, by omega⟩
  have hA : A < 256 := by omega
  have hAI : (A : Int) < 256 := by omega
  have hn : 0 ≤ n ∧ n ≤ 2000 := by omega
  subst hk
  have es : pstep m ⟨4, n, (A : Int), D⟩ = (answM m D, 0, decide (wat m.ws D < m.ws.length)) := by
    unfold pstep
    dsimp only
    rw [if_neg hc, if_neg (by omega), if_neg (by omega), if_neg (by omega), if_pos rfl, if_neg (by omega)]
    unfold answM
    by_cases hf : wat m.ws D < m.ws.length
    · rw [if_pos hf, if_pos hf, decide_eq_true hf]
    · rw [if_neg hf, if_neg hf, decide_eq_false hf]
  rw [es]
  have h1 : ¬ (A : Int) < 0 := by omega
  have h2 : ¬ (255 : Int) < (A : Int) := by omega
  have h3 : ¬ n < 0 := by omega
  have h4 : ¬ 2000 < n := by omega
  have ha := hI.ad
  obtain ⟨wv, Z, hM⟩ := id h
  obtain ⟨d0, d1, d2, d3, d4, d5⟩ := hM.cells
  have hx := (Array.getElem?_eq_some_iff.1 hM.bk).1
  have l1 := hM.r1.lt
  have l2 := hM.r2.lt
  have l3 := hM.r3.lt
  obtain ⟨W0, eW0⟩ : ∃ W0, W0 = ((w.alloc (.cells #[.int .i64 4, .int .i64 n, .int .i64 (A : Int), dv] 34)).alloc (.cells #[.int .i64 0, .int .i64 0, .int .i64 0, .bool false, .bool false] 32)).alloc (.cells #[.int .i64 0, .int .i64 0, .int .i64 0, .bool false, .bool false] 32) := ⟨_, rfl⟩
  have bW0 : Below w.heap.size w W0 := by rw [eW0]; exact below3 w _ _ _
  obtain ⟨e0, e1, e2, e3, e4, e5⟩ := (hM.below bW0).cells
  have kW : W0.heap[w.heap.size]? = some (.cells #[.int .i64 4, .int .i64 n, .int .i64 (A : Int), dv] 34 (0, 0)) := by rw [eW0]; exact (bk_new3 w _ _ _).1
  have p1 : W0.cell? ⟨w.heap.size, 1, none⟩ = some (.int .i64 n) := (bk_cell kW 1).trans rfl
  have p2 : W0.cell? ⟨w.heap.size, 2, none⟩ = some (.int .i64 (A : Int)) := (bk_cell kW 2).trans rfl
  have p3 : W0.cell? ⟨w.heap.size, 3, none⟩ = some dv := (bk_cell kW 3).trans rfl
  have HB : Hid _ := And.intro bW0 (And.intro (hM.below bW0) kW)
  rw [eW0] at HB e0 e1 e2 e3 e4 p1 p2 p3
  clear bW0 kW e5 eW0
  have hd8 : ((D.length : Int) != 8) = false := by simp; omega
  have CL := answM1 x c1 c2 c3 base m dv D i _ ⟨wv, Z, HB.out.2.1⟩ hI (hr.below HB.out.1) hl (Nat.le_trans hbase HB.out.1.size) hby
  have HL : Hid _ := And.intro CL True.intro
  clear CL e0 e1 e2 e3 e4 d0 d1 d2 d3 d4 d5 p1 p2
  obtain ⟨m', em⟩ : ∃ m', m' = answM m D := ⟨_, rfl⟩
  obtain ⟨an, ean⟩ : ∃ an : Bool, an = decide (wat m.ws D < m.ws.length) := ⟨_, rfl⟩
  rw [← em, ← ean] at HL
  rw [← em, ← ean]
  obtain ⟨ao, cp, ev⟩ := hr.form
  generalize D.length = dn at *
  clear h hI hr es hby hl hM hc hs hn em ean
  subst ev
  go_enter Try.func14, Try.ntmps14
  go_wp2_with fail
  go_at_call 21
  refine HL.out.1.mono ?_
  rintro e w2 ⟨rfl, P2, C2⟩
  have nk : ∀ q, w.heap.size ≤ q → ¬ KS x c1 c2 c3 q := fun q hq e => by rcases e with e | e | e | e <;> omega
  have h21 := C2.bk (bk_new3' w _ _ _).1 (Or.inr ⟨nk _ (by omega), by decide⟩)
  have h22 := C2.bk (bk_new3' w _ _ _).2 (Or.inr ⟨nk _ (by omega), by decide⟩)
  have y0 : w2.cell? ⟨w.heap.size + 1, 0, none⟩ = some (.int .i64 0) := (bk_cell h21 0).trans rfl
  have f0 := bk_free h21 0
  have u0 : w2.cell? ⟨w.heap.size + 1 + 1, 0, none⟩ = some (.int .i64 0) := (bk_cell h22 0).trans rfl
  have v0 : w2.frozen? ⟨w.heap.size + 1 + 1, 0, none⟩ = false := bk_free h22 0
  have y1 : w2.cell? ⟨w.heap.size + 1, 1, none⟩ = some (.int .i64 0) := (bk_cell h21 1).trans rfl
  have f1 := bk_free h21 1
  have u1 : w2.cell? ⟨w.heap.size + 1 + 1, 1, none⟩ = some (.int .i64 0) := (bk_cell h22 1).trans rfl
  have v1 : w2.frozen? ⟨w.heap.size + 1 + 1, 1, none⟩ = false := bk_free h22 1
  have y2 : w2.cell? ⟨w.heap.size + 1, 2, none⟩ = some (.int .i64 0) := (bk_cell h21 2).trans rfl
  have f2 := bk_free h21 2
  have u2 : w2.cell? ⟨w.heap.size + 1 + 1, 2, none⟩ = some (.int .i64 0) := (bk_cell h22 2).trans rfl
  have v2 : w2.frozen? ⟨w.heap.size + 1 + 1, 2, none⟩ = false := bk_free h22 2
  have y3 : w2.cell? ⟨w.heap.size + 1, 3, none⟩ = some (.bool false) := (bk_cell h21 3).trans rfl
  have f3 := bk_free h21 3
  have u3 : w2.cell? ⟨w.heap.size + 1 + 1, 3, none⟩ = some (.bool false) := (bk_cell h22 3).trans rfl
  have v3 : w2.frozen? ⟨w.heap.size + 1 + 1, 3, none⟩ = false := bk_free h22 3
  have y4 : w2.cell? ⟨w.heap.size + 1, 4, none⟩ = some (.bool false) := (bk_cell h21 4).trans rfl
  have f4 := bk_free h21 4
  have u4 : w2.cell? ⟨w.heap.size + 1 + 1, 4, none⟩ = some (.bool false) := (bk_cell h22 4).trans rfl
  have v4 : w2.frozen? ⟨w.heap.size + 1 + 1, 4, none⟩ = false := bk_free h22 4
  have H2 : Hid _ := And.intro P2 (And.intro C2 (And.intro h21 h22))
  clear P2 C2 h21 h22 nk
  go_wp2_with fail
  have T0 : ObM x c1 c2 c3 base w w2 m' #[.int .i64 0, .int .i64 0, .int .i64 0, .bool false, .bool false] #[.int .i64 0, .int .i64 0, .int .i64 0, .bool false, .bool false] := ⟨H2.out.1, (ChS.of_below HB.out.1).trans H2.out.2.1, H2.out.2.2.1, H2.out.2.2.2⟩
  have T := ((((((T0).s2 4 (.bool an)).s1 0 (.int .i64 0)).s1 1 (.int .i64 0)).s1 2 (.int .i64 0)).s1 3 (.bool false)).s1 4 (.bool an)
  refine bodyPost_ret (v := .agg #[.int .i64 0, .int .i64 0, .int .i64 0, .bool false, .bool an]) ?_ rfl ?_
  · exact results_cell_row (t := 32) rfl _ _ (w.heap.size + 1) _ (fr := (0, 0)) _ rfl (T.h1.trans rfl) Try.underlying32 rfl infoPObs
  · exact ⟨rfl, T.P, T.C⟩
theorem doP (x c1 c2 c3 base : Nat) (m : PX) (o : SPathOp) (dv : Value) (i : Nat) (w : World) (h : MRp w x c1 c2 c3 base m) (hI : PXI i m) (hi : i < 300) (hr : Row w .u8 dv o.f3) (hl : o.f3.length ≤ 1048576) (hbase : base ≤ w.heap.size) (hby : ∀ x ∈ o.f3, 0 ≤ x ∧ x < 256) :
    Calls Try.prog 14 #[.pointer (some ⟨x, 0, none⟩), .agg #[.int .i64 o.f0, .int .i64 o.f1, .int .i64 o.f2, dv]] w fun e w' => e = .returned (.agg #[.int .i64 (pstep m o).2.1, .int .i64 0, .int .i64 0, .bool false, .bool (pstep m o).2.2]) ∧ MDo x c1 c2 c3 base w w' (pstep m o).1 := by
  by_cases hc : o.f2 < 0 ∨ 255 < o.f2 ∨ o.f1 < 0 ∨ 2000 < o.f1 ∨ o.f0 < 1 ∨ 4 < o.f0 ∨ (3 ≤ o.f0 ∧ o.f3.length ≠ 8)
  · exact do_bad x c1 c2 c3 base m o dv i w h hI hi hr hl hbase hby hc
  have hc' : ¬ (o.f2 < 0 ∨ 255 < o.f2 ∨ o.f1 < 0 ∨ 2000 < o.f1) := by omega
  by_cases k1 : o.f0 = 1
  · by_cases hs : m.srv = true
    · exact do_came1 x c1 c2 c3 base m o dv i w h hI hi hr hl hbase hby hc' k1 hs
    have hs' : m.srv = false := by simpa using hs
    by_cases ha : o.f2 = (m.ad : Int)
    · exact do_came2 x c1 c2 c3 base m o dv i w h hI hi hr hl hbase hby hc' k1 ⟨hs', ha⟩
    · exact do_came0 x c1 c2 c3 base m o dv i w h hI hi hr hl hbase hby hc' k1 ⟨hs', ha⟩
  by_cases k2 : o.f0 = 2
  · by_cases hs : m.may < o.f1
    · exact do_send0 x c1 c2 c3 base m o dv i w h hI hi hr hl hbase hby hc' k2 hs
    · exact do_send1 x c1 c2 c3 base m o dv i w h hI hi hr hl hbase hby hc' k2 hs
  by_cases k3 : o.f0 = 3
  · exact do_chal x c1 c2 c3 base m o dv i w h hI hi hr hl hbase hby hc' k3 (by omega)
  · exact do_answ x c1 c2 c3 base m o dv i w h hI hi hr hl hbase hby hc' (by omega) (by omega)
end Go.Proofs.Ytdoglkjhmaiknaa

namespace Go.Proofs.Ytdoglkjhmaiknaa
open Go.RowKit
set_option linter.unusedVariables false
set_option linter.unusedSimpArgs false

theorem infoI : (Try.prog.info? 3).map (fun i => (i.zero, i.size, i.bytes)) = some (some (.int .i64 0), 1, 8) := by kernel_rfl
theorem infoT : (Try.prog.info? 4).map (fun i => (i.zero, i.size, i.bytes)) = some (some (.bool false), 1, 1) := by kernel_rfl
theorem mk256 (ts e : TypeId) (z : Value) (B : Nat) (hu : Try.prog.underlying ts = some (.slice e)) (hinfo : (Try.prog.info? e).map (fun i => (i.zero, i.size, i.bytes)) = some (some z, 1, B)) (hB : B ≤ 8) (hz : z.cells = #[z]) : ∃ M : Array Value, (∀ W : World, (Instr.makeSlice ts (.int .i64 256) (.int .i64 256)).run Try.prog W = .ok (.slice (some ⟨W.heap.size, 0, none⟩) 256 256) (W.alloc (.cells M e))) ∧ M.size = 256 ∧ ∀ k, k < 256 → M[k]? = some z := by
  obtain ⟨i, hi, hz0, hsz, hby⟩ := info_parts hinfo
  refine ⟨madeCells z.cells (256 * 1), fun W => ?_, ?_, fun k hk => ?_⟩
  · have r := run_make (P := Try.prog) W ts e i z hu hi hz0 .i64 .i64 256 256 (by decide) (Int.le_refl _) (by rw [hby]; omega) (by decide)
    rw [hsz] at r
    exact r
  · rw [size_madeCells]
  · rw [← Array.getElem?_toList, hz, toList_madeCells_one, List.getElem?_replicate, if_pos (by omega)]
theorem bk_new4 (w : World) (o1 o2 o3 o4 : Obj) : ((((w.alloc o1).alloc o2).alloc o3).alloc o4).heap[w.heap.size]? = some o1 ∧ ((((w.alloc o1).alloc o2).alloc o3).alloc o4).heap[w.heap.size + 1]? = some o2 ∧ ((((w.alloc o1).alloc o2).alloc o3).alloc o4).heap[w.heap.size + 1 + 1]? = some o3 ∧ ((((w.alloc o1).alloc o2).alloc o3).alloc o4).heap[w.heap.size + 1 + 1 + 1]? = some o4 := by
  obtain ⟨h1, h2, h3⟩ := bk_new3 w o1 o2 o3
  have hs : (((w.alloc o1).alloc o2).alloc o3).heap.size = w.heap.size + 1 + 1 + 1 := by simp
  refine ⟨(heap_alloc_old _ o4 (by omega)).trans h1, (heap_alloc_old _ o4 (by omega)).trans h2, (heap_alloc_old _ o4 (by omega)).trans h3, ?_⟩
  have t := heap_alloc_new (((w.alloc o1).alloc o2).alloc o3) o4
  rw [hs] at t
  exact t
theorem mbNew {W : World} {x c1 c2 c3 base : Nat} {srv : Bool} {MI MT : Array Value} (bk : W.heap[x]? = some (.cells #[.bool srv, .int .i64 0, .slice (some ⟨c1, 0, none⟩) 256 256, .slice (some ⟨c2, 0, none⟩) 256 256, .slice (some ⟨c3, 0, none⟩) 256 256, .slice none 0 0] 47 (0, 0)))
    (h1 : W.heap[c1]? = some (.cells MI 3 (0, 0))) (h2 : W.heap[c2]? = some (.cells MI 3 (0, 0))) (h3 : W.heap[c3]? = some (.cells (MT.setIfInBounds 0 (.bool !srv)) 4 (0, 0))) (sI : MI.size = 256) (aI : ∀ k, k < 256 → MI[k]? = some (.int .i64 0)) (sT : MT.size = 256) (aT : ∀ k, k < 256 → MT[k]? = some (.bool false)) (ne : c1 ≠ c2) (lo : base ≤ x ∧ base ≤ c1 ∧ base ≤ c2 ∧ base ≤ c3) : MB W x c1 c2 c3 base (px0 srv) (.slice none 0 0) [] := by
  refine ⟨bk, ⟨MI, h1, sI, aI⟩, ⟨MI, h2, sI, aI⟩, ⟨_, h3, by simpa using sT, fun k hk => ?_⟩, ne, lo, rfl, OffR.nil _ _ _ _, fun z hz => by cases hz⟩
  show _ = some (Value.bool (updF (fun _ => false) 0 (!srv) k))
  by_cases e : k = 0
  · subst e; rw [arr_set, if_pos ⟨rfl, by omega⟩, updF_at]
  · rw [arr_set, if_neg (by omega), updF_ne _ _ _ _ e]; exact aT k hk
set_option maxRecDepth 20000 in
set_option maxHeartbeats 4000000 in
theorem newPM (srv : Bool) (w : World) :
    Calls Try.prog 13 #[.bool srv] w fun e w' => ∃ x c1 c2 c3, e = .returned (.pointer (some ⟨x, 0, none⟩)) ∧ MRp w' x c1 c2 c3 w.heap.size (px0 srv) ∧ Below w.heap.size w w' := by
  obtain ⟨MI, mI, sI, aI⟩ := mk256 29 3 (.int .i64 0) 8 Try.underlying29 infoI (by decide) rfl
  obtain ⟨MT, mT, sT, aT⟩ := mk256 30 4 (.bool false) 1 Try.underlying30 infoT (by decide) rfl
  have HM : Hid _ := And.intro sI (And.intro aI (And.intro sT aT))
  have t0 : MT[0]? = some (.bool false) := aT 0 (by decide)
  clear sI aI sT aT
  go_enter Try.func13, Try.ntmps13
  go_wp2_with fail
  go_region
  all_goals
    go_wp2_with fail
  all_goals
    go_ret
    refine ⟨_, _, _, _, rfl, ⟨_, [], mbNew (MI := MI) (MT := MT) (bk_new4 w _ _ _ _).2.2.2 ?_ ?_ ?_ HM.out.1 HM.out.2.1 HM.out.2.2.1 HM.out.2.2.2 (by omega) (by omega)⟩, ?_⟩
    · first | exact (bk_new4 w _ _ _ _).1 | exact (bk_new4 w _ _ _ _).2.1 | exact (bk_new4 w _ _ _ _).2.2.1
    · first | exact (bk_new4 w _ _ _ _).1 | exact (bk_new4 w _ _ _ _).2.1 | exact (bk_new4 w _ _ _ _).2.2.1
    · first | exact (bk_new4 w _ _ _ _).1 | exact (bk_new4 w _ _ _ _).2.1 | exact (bk_new4 w _ _ _ _).2.2.1
    · exact below_drewN ((((( Below.refl _ _).alloc (Nat.le_refl _) _).alloc (by simp) _).alloc (by simp; omega) _).alloc (by simp; omega) _) 1
end Go.Proofs.Ytdoglkjhmaiknaa

namespace Go.Proofs.Ytdoglkjhmaiknaa
open Go.RowKit
set_option linter.unusedVariables false
set_option linter.unusedSimpArgs false

theorem obs_flat (L : List SPathObs) : FlatK 5 (SPathObs.L L) := fun y hy => by
  obtain ⟨z, _, rfl⟩ := List.mem_map.1 hy
  refine ⟨rfl, fun v hv => ?_⟩
  unfold SPathObs.c at hv
  simp only [List.mem_cons, List.not_mem_nil, or_false] at hv
  rcases hv with rfl | rfl | rfl | rfl | rfl <;> rfl
theorem obs_notS {w : World} {x c1 c2 c3 base : Nat} {m : PX} {wv : Value} {Z : List ((List Int × Nat) × Value)} (h : MB w x c1 c2 c3 base m wv Z) {b n s : Nat} {v : Value} {xs : List Value} (o : w.ownsRow b 32 s v n xs) : ∀ k, v.ownBlock = some k → ¬ KS x c1 c2 c3 k := by
  intro k hk hS
  rcases o.2 with ⟨rfl, _⟩ | ⟨g, cap, cur, rfl, _, hh, _⟩
  · cases hk
  obtain rfl : g = k := Option.some.inj hk
  have ty : ∀ (B : Array Value) (T : TypeId), w.heap[g]? = some (.cells B T (0, 0)) → 32 = T := fun B T hb => by
    rw [hh] at hb
    have e2 := Option.some.inj hb
    injection e2
  obtain ⟨A1, b1, _⟩ := h.r1
  obtain ⟨A2, b2, _⟩ := h.r2
  obtain ⟨A3, b3, _⟩ := h.r3
  rcases hS with rfl | rfl | rfl | rfl
  · exact absurd (ty _ _ h.bk) (by decide)
  · exact absurd (ty _ _ b1) (by decide)
  · exact absurd (ty _ _ b2) (by decide)
  · exact absurd (ty _ _ b3) (by decide)
theorem gown_chg {w w' : World} {x c1 c2 c3 base b' : Nat} {m : PX} {v : Value} {L : List (List Value)} (hp : MRp w x c1 c2 c3 base m) (h : GOwns 32 5 w b' v L) (hc : ChS (KS x c1 c2 c3) 69 base w w') : GOwns 32 5 w' b' v L := by
  obtain ⟨wv, Z, M⟩ := hp
  obtain ⟨zs, o, hz⟩ := h
  exact ⟨zs, hc.ownsC o (by decide) (obs_notS M o), hz⟩
theorem litQ {W : World} {q : Nat} {cs : List Value} {T : TypeId} {fr : Nat × Nat} (h : W.heap[q]? = some (.cells cs.toArray T fr)) (K : Nat) (hK : cs.length = K) : GRow K W (.slice (some ⟨q, 0, none⟩) 1 1) [cs] := by
  subst hK
  refine Or.inr ⟨q, 0, 1, rfl, (Array.getElem?_eq_some_iff.1 h).1, fun j hj f hf => ?_⟩
  obtain rfl : j = 0 := by simpa using hj
  rw [Nat.zero_mul, Nat.zero_add, Nat.zero_add, bk_cell h f]
  simp
theorem MB.grownO {W W' : World} {x c1 c2 c3 base b' : Nat} {m : PX} {wv : Value} {Z : List ((List Int × Nat) × Value)} (h : MB W x c1 c2 c3 base m wv Z) (hc : ChS (fun _ => False) 32 b' W W') : MB W' x c1 c2 c3 base m wv Z :=
  ⟨hc.bk h.bk (Or.inr ⟨fun e => e, by decide⟩), h.r1.chg hc (fun e => e) (by decide), h.r2.chg hc (fun e => e) (by decide), h.r3.chg hc (fun e => e) (by decide), h.ne, h.lo, h.zs, h.of.chg hc (fun _ _ _ => Or.inr ⟨fun e => e, by decide⟩), fun z hz => hc.ownsC (h.ow z hz) (by decide) (fun _ _ e => e)⟩
theorem gown_blk {T : TypeId} {K : Nat} {w : World} {base : Nat} {v : Value} {L : List (List Value)} (h : GOwns T K w base v L) : ∀ k, v.ownBlock = some k → base ≤ k ∧ ∃ c fr, w.heap[k]? = some (.cells c T fr) := by
  obtain ⟨zs, o, _⟩ := h
  intro k hk
  rcases o.2 with ⟨rfl, _⟩ | ⟨g, cap, cur, rfl, hg, hh, _⟩
  · cases hk
  obtain rfl : g = k := Option.some.inj hk
  exact ⟨hg, _, _, hh⟩
set_option maxRecDepth 20000 in
set_option maxHeartbeats 4000000 in
theorem specPR (srv : Bool) (v : Value) (R : List SPathOp) (w : World) (row : BRow 4 SPathOp.c SPathOp.d w v R)
    (hd : ∀ j, j < R.length → (R.getD j default).d.length ≤ 1048576) (hby : ∀ j, ∀ x ∈ (R.getD j default).f3, 0 ≤ x ∧ x < 256) (hl : R.length ≤ 140737488355328) :
    Calls Try.prog 5 #[.bool srv, v] w fun e w' => ∃ r, e = .returned (.tuple #[r, .int .i64 (prC R)]) ∧ GOwns 32 5 w' w.heap.size r (SPathObs.L (prY srv R)) ∧ Below w.heap.size w w' := by
  obtain ⟨ao, cp, ev⟩ := row.form
  by_cases a1 : 300 < R.length
  · have e1 : prC R = 4 := by unfold prC; rw [if_pos a1]
    have e2 : prY srv R = [] := by unfold prY; rw [if_pos a1]
    rw [e1, e2, ev]
    have a1' : (300 : Int) < (R.length : Int) := by omega
    generalize R.length = n at *
    clear row hd hby
    go_enter Try.func5, Try.ntmps5
    go_wp2
    go_ret2
    exact ⟨_, rfl, GOwns.lit0 _ _ _ _ (Nat.le_refl _), (Below.refl _ _).alloc (Nat.le_refl _) _⟩
  have e1 : prC R = 0 := by unfold prC; rw [if_neg a1]
  have e2 : prY srv R = (List.range R.length).map (pobsAt srv R) := by unfold prY; rw [if_neg a1]
  rw [e1, e2]
  have C := newPM srv w
  have a1' : ¬ (300 : Int) < (R.length : Int) := by omega
  obtain ⟨n, en⟩ : ∃ n, n = R.length := ⟨_, rfl⟩
  have hn3 : n ≤ 300 := by omega
  rw [← en] at ev a1' ⊢
  have HH : Hid _ := And.intro C (And.intro row (And.intro hd (And.intro hby en)))
  clear C row hd hby en e1 e2 a1 hl
  subst ev
  go_enter Try.func5, Try.ntmps5
  go_wp2_with fail
  go_at_call 13
  refine HH.out.1.mono ?_
  rintro e w1 ⟨x, c1, c2, c3, rfl, P1, b1⟩
  have b1' : Below w1.heap.size w1 (w1.alloc (.cells #[] 32)) := (Below.refl _ _).alloc (Nat.le_refl _) _
  have H1 : Hid _ := And.intro (P1.below b1') (And.intro (b1.trans (b1'.mono b1.size)) (GOwns.lit0 32 5 w1 w.heap.size b1.size))
  clear P1 b1 b1'
  go_wp2_with fail
  go_loopg [7, 8, 9] n (fun q ov kv u9 wr => ∃ k : Nat, k ≤ n ∧ q = n - k ∧ kv = .int .i64 (k : Int) ∧ GOwns 32 5 wr w.heap.size ov (SPathObs.L ((List.range k).map (pobsAt srv R))) ∧ MRp wr x c1 c2 c3 w.heap.size (prunP srv R k) ∧ Below w.heap.size w wr)
  case atStart => exact ⟨0, Nat.zero_le _, by omega, rfl, H1.out.2.2, H1.out.1, H1.out.2.1⟩
  case round =>
    obtain ⟨k, hk, hq, rfl, G, P, bw⟩ := hrel
    by_cases hlt : k < n
    · obtain ⟨b, off, cap, ev, hbl, U0, hc, hr⟩ := HH.out.2.1.at' (by have := HH.out.2.2.2.2; omega)
      rw [← HH.out.2.2.2.2] at ev
      simp only [Value.slice.injEq] at ev
      obtain ⟨rfl, em2, rfl⟩ := ev
      clear em2
      have e0 := HH.out.2.2.2.2
      have hck := hc k (by omega)
      obtain ⟨uk, euk⟩ : ∃ u, u = U0 k := ⟨_, rfl⟩
      have hrk := (hr k (by omega)).below bw
      rw [← euk] at hck hrk
      obtain ⟨o, eo⟩ : ∃ o, o = R.getD k default := ⟨_, rfl⟩
      have hdk := HH.out.2.2.1 k (by omega)
      have hbk := HH.out.2.2.2.1 k
      rw [← eo] at hck hrk hdk hbk
      have c0 : wr.cell? ⟨b, off + k * 4, none⟩ = some (.int .i64 o.f0) := (bw.cell (p := ⟨b, off + (k * 4 + 0), none⟩) hbl).trans (hck 0 (by omega))
      have c1' : wr.cell? ⟨b, off + k * 4 + 1, none⟩ = some (.int .i64 o.f1) := (bw.cell (p := ⟨b, off + (k * 4 + 1), none⟩) hbl).trans (hck 1 (by omega))
      have c2' : wr.cell? ⟨b, off + k * 4 + 2, none⟩ = some (.int .i64 o.f2) := (bw.cell (p := ⟨b, off + (k * 4 + 2), none⟩) hbl).trans (hck 2 (by omega))
      have c3' : wr.cell? ⟨b, off + k * 4 + 3, none⟩ = some uk := (bw.cell (p := ⟨b, off + (k * 4 + 3), none⟩) hbl).trans (hck 3 (by omega))
      have hI := prunP_inv srv R HH.out.2.2.2.1 k
      have C := doP x c1 c2 c3 w.heap.size (prunP srv R k) o uk k wr P hI (by omega) hrk hdk bw.size hbk
      have hI1 := prunP_inv srv R HH.out.2.2.2.1 (k + 1)
      obtain ⟨S, eS⟩ : ∃ S, S = pstep (prunP srv R k) o := ⟨_, rfl⟩
      have eP : prunP srv R (k + 1) = S.1 := by rw [eS, eo]; rfl
      have eO : pobsAt srv R k = pobs S := by rw [eS, eo]; rfl
      rw [← eS] at C
      rw [eP] at hI1
      obtain ⟨ua, uc, eu⟩ := hrk.form
      obtain ⟨un, eun⟩ : ∃ un, un = o.d.length := ⟨_, rfl⟩
      rw [← eun] at eu
      obtain ⟨la, lc, el⟩ := G.row.form
      obtain ⟨ln, eln⟩ : ∃ ln, ln = (SPathObs.L ((List.range k).map (pobsAt srv R))).length := ⟨_, rfl⟩
      rw [← eln] at el
      have H4 : Hid _ := And.intro C (And.intro G (And.intro P (And.intro bw (And.intro hI1 (And.intro eP (And.intro eO el))))))
      clear C hck hrk hc hr euk eo eun e0 hdk hbk hI eS G P bw hI1 eP eO eln
      obtain ⟨x0, x1, x2, x3⟩ := o
      subst eu
      dsimp only at *
      obtain ⟨m2, cd, an⟩ := S
      dsimp only at H4
      go_wp2_with fail
      go_at_call 14
      refine H4.out.1.mono ?_
      rintro e w2 ⟨rfl, P2, C2⟩
      have G2 := gown_chg H4.out.2.2.1 H4.out.2.1 C2
      have b2 := H4.out.2.2.2.1.trans (C2.toBelow H4.out.2.2.2.1.size)
      obtain ⟨wv, Z, M2⟩ := id P2
      obtain ⟨d0, d1, d2, d3, d4, d5⟩ := M2.cells
      have ha2 := H4.out.2.2.2.2.1.ad
      have v3 := M2.r3.cell m2.ad ha2
      have hx2 := (Array.getElem?_eq_some_iff.1 M2.bk).1
      have hc2 := M2.r3.lt
      have na : ∀ (A : Array Value) (b o : Nat), b < w2.heap.size → (w2.alloc (.cells A 32)).cell? ⟨b, o, none⟩ = w2.cell? ⟨b, o, none⟩ := fun A b o hb => World.cell?_of_block (a := ⟨b, o, none⟩) (heap_alloc_old w2 _ hb)
      have d1' := fun A => (na A x 1 hx2).trans d1
      have d4' := fun A => (na A x 4 hx2).trans d4
      have v3' := fun A => (na A c3 m2.ad hc2).trans v3
      have CM : ∀ W : World, Below w2.heap.size w2 W → Calls Try.prog 15 #[.pointer (some ⟨x, 0, none⟩)] W fun e w' => e = .returned (.int .i64 m2.may) ∧ ∃ n, w' = W.drewN n := fun W hW => mayM x c1 c2 c3 w.heap.size m2 wv Z (k + 1) W (M2.below hW) H4.out.2.2.2.2.1 (by omega)
      have H5 : Hid _ := And.intro G2 (And.intro b2 (And.intro P2 CM))
      obtain ⟨ad, ead⟩ : ∃ ad, ad = m2.ad := ⟨_, rfl⟩
      obtain ⟨tv, etv⟩ : ∃ t, t = m2.va m2.ad := ⟨_, rfl⟩
      rw [← etv] at v3 v3'
      rw [← ead] at v3 v3' d1 d1' ha2
      have hadI : (ad : Int) < 256 := by omega
      have HE : Hid _ := And.intro ead etv
      clear G2 b2 P2 C2 M2 CM na d0 d2 d3 d5 ead etv
      go_wp2_with fail
      go_region
      go_wp2_with fail
      go_at_call 15
      refine (H5.out.2.2.2 _ (below_drewN ((Below.refl _ _).alloc (Nat.le_refl _) _) 1)).mono ?_
      rintro e w3 ⟨rfl, q3, rfl⟩
      obtain ⟨mm, emm⟩ : ∃ mm, mm = m2.may := ⟨_, rfl⟩
      rw [← emm]
      have HMM : Hid _ := emm
      have hel := H4.out.2.2.2.2.2.2.2
      have GG := H5.out.1
      rw [hel] at GG
      have HG : Hid _ := And.intro GG True.intro
      obtain ⟨Wp, eWp⟩ : ∃ Wp, Wp = ((w2.alloc (.cells #[.int .i64 cd, .int .i64 (ad : Int), .int .i64 0, .bool tv, .bool an] 32)).drewN (1 + q3)).setCell ⟨w2.heap.size, 2, none⟩ (.int .i64 mm) := ⟨_, rfl⟩
      have bWp : Below w2.heap.size w2 Wp := by rw [eWp]; exact (below_drewN ((Below.refl _ _).alloc (Nat.le_refl _) _) (1 + q3)).setCell (p := ⟨w2.heap.size, 2, none⟩) (Nat.le_refl _) _
      have sWp : Wp.heap.size = w2.heap.size + 1 := by rw [eWp, setCell_size]; exact (by simp : (w2.alloc (.cells #[.int .i64 cd, .int .i64 (ad : Int), .int .i64 0, .bool tv, .bool an] 32)).heap.size = w2.heap.size + 1)
      have bWx : Below w2.heap.size w2 (Wp.alloc (.cells #[.int .i64 cd, .int .i64 (ad : Int), .int .i64 mm, .bool tv, .bool an] 32)) := bWp.alloc (by omega) _
      have hWx : (Wp.alloc (.cells #[.int .i64 cd, .int .i64 (ad : Int), .int .i64 mm, .bool tv, .bool an] 32)).heap[w2.heap.size + 1]? = some (.cells [Value.int .i64 cd, .int .i64 (ad : Int), .int .i64 mm, .bool tv, .bool an].toArray 32 (0, 0)) := by rw [← sWp]; exact heap_alloc_new _ _
      have HX : Hid _ := And.intro bWx hWx
      rw [eWp] at HX
      clear emm hel GG eWp bWp sWp bWx hWx
      go_wp2_with (at_builtin; refine wpList_append_flat rfl (.tmp 48) (.tmp 50) 26 32 Try.underlying26 _ 5 32 infoPathObs rfl (by decide) (by decide) rfl w.heap.size (.slice la ln lc) (SPathObs.L ((List.range k).map (pobsAt srv R))) (obs_flat _) rfl (HG.out.1.below HX.out.1) _ [[.int .i64 cd, .int .i64 (ad : Int), .int .i64 mm, .bool tv, .bool an]] (by intro y hy; obtain rfl : y = [.int .i64 cd, .int .i64 (ad : Int), .int .i64 mm, .bool tv, .bool an] := (by simpa using hy); exact ⟨rfl, by intro v hv; simp only [List.mem_cons, List.not_mem_nil, or_false] at hv; rcases hv with rfl | rfl | rfl | rfl | rfl <;> rfl⟩) rfl (litQ HX.out.2 5 rfl) (by rw [List.length_map, List.length_map, List.length_range, List.length_singleton]; omega) (Nat.le_trans H5.out.2.1.size HX.out.1.size) ?_; intro v6 w6 o6 g6; have H6 : Hid _ := And.intro o6 g6; clear o6 g6)
      go_roundg (n - (k + 1))
      case measure => omega
      case rel =>
        obtain ⟨wv5, Z5, M5⟩ := H5.out.2.2.1
        have hel := H4.out.2.2.2.2.2.2.2
        have GB := gown_blk (HG.out.1.below HX.out.1)
        have CO : ChS (fun _ => False) 32 w.heap.size _ w6 := ChS.of_grown H6.out.2 GB
        have e1 : (List.range (k + 1)).map (pobsAt srv R) = (List.range k).map (pobsAt srv R) ++ [pobs (m2, cd, an)] := by rw [List.range_succ, List.map_append, ← H4.out.2.2.2.2.2.2.1]; rfl
        have e2 : SPathObs.L [pobs (m2, cd, an)] = [[.int .i64 cd, .int .i64 (ad : Int), .int .i64 mm, .bool tv, .bool an]] := by rw [HE.out.1, HE.out.2, HMM.out]; rfl
        refine ⟨k + 1, by omega, rfl, by go_num, ?_, ⟨_, _, by rw [H4.out.2.2.2.2.2.1]; exact (M5.below HX.out.1).grownO CO⟩, ?_⟩
        · rw [e1, show SPathObs.L ((List.range k).map (pobsAt srv R) ++ [pobs (m2, cd, an)]) = SPathObs.L ((List.range k).map (pobsAt srv R)) ++ SPathObs.L [pobs (m2, cd, an)] from List.map_append, e2]
          exact H6.out.1
        · exact (H5.out.2.1.trans (HX.out.1.mono H5.out.2.1.size)).grown H6.out.2 (Nat.le_trans H5.out.2.1.size HX.out.1.size) (fun q hq => (GB q hq).1)
    · obtain rfl : k = n := by omega
      have HF : Hid _ := And.intro G bw
      obtain ⟨la, lc, el⟩ := G.row.form
      obtain ⟨ln, eln⟩ : ∃ ln, ln = (SPathObs.L ((List.range k).map (pobsAt srv R))).length := ⟨_, rfl⟩
      rw [← eln] at el
      clear G bw P eln
      subst el
      go_wp2_with fail
      go_ret2
      exact ⟨_, rfl, HF.out.1, HF.out.2⟩
end Go.Proofs.Ytdoglkjhmaiknaa
