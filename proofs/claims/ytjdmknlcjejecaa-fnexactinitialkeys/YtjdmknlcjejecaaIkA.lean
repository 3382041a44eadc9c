import Derived.Test.YtjdmknlcjejecaaVersS
import Derived.Test.YtjdmknlcjejecaaRetryS
import Derived.Test.YtjdmknlcjejecaaKeysOf
import Derived.Test.YtjdmknlcjejecaaDer
import Derived.Test.YtjdmknlcjejecaaICopy
import Derived.Laws.Append
namespace Go.Proofs.Ytjdmknlcjejecaa
open Go.RowKit
set_option linter.unusedVariables false

/-- 'append(full, row...)': what is full, whosever it is, is copied; the answer is one's own. -/
theorem run_append_full {w : World} (ty : TypeId) (base : Nat) (b off n : Nat) (xs : List Int) (en : xs.length = n) (hx : Row w .u8 (.slice (some ⟨b, off, none⟩) n n) xs)
    (v2 : Value) (ys : List Int) (hrow : Row w .u8 v2 ys) (h0 : 0 < ys.length) (h1 : 0 < n) (h63 : n + ys.length ≤ 1099511627776) (hbase : base ≤ w.heap.size) :
    ∃ v' w', (Builtin.append_ #[22, 22] ty #[.slice (some ⟨b, off, none⟩) n n, v2]).run Try.prog w = .ok v' w' ∧ w'.ownsRow base 5 1 v' (n + ys.length) ((xs ++ ys).map (Value.int .u8)) ∧ w.grownBy w' none := by
  obtain ⟨i, hi, hz, hsize, hby⟩ := info_parts infoBy
  obtain ⟨b2, off2, cap2, rfl, hb2, hc2⟩ := hrow.at h0
  obtain ⟨b1, off1, cap1, e1, hb1, hc1⟩ := hx.at (by omega)
  rw [en] at e1 hc1
  cases e1
  have rd : ∀ (zs : List Int) (bb oo : Nat), (∀ j, j < zs.length → w.cell? ⟨bb, oo + j, none⟩ = some (.int .u8 (zs.getD j 0))) → ∀ (j : Nat) (u : Value), (zs.map (Value.int .u8))[j]? = some u → w.cell? ((⟨bb, oo, none⟩ : Addr).add j) = some u := by
    intro zs bb oo hc j u hj
    have hj' : j < zs.length := by
      have := (List.getElem?_eq_some_iff.1 hj).1
      rwa [List.length_map] at this
    rw [Go.WideShapes.add_plain, hc j hj']
    rw [List.getElem?_map, List.getElem?_eq_getElem hj'] at hj
    simp only [Option.map_some, Option.some.injEq] at hj
    rw [← hj]
    simp [List.getD, hj']
  have hr := run_append_grow (P := Try.prog) w 22 ty 5 i (.int .u8 0) Try.underlying22 hi hz ⟨b, off, none⟩ n n (xs.map (Value.int .u8)) (by rw [hsize]; simp [en]) (rd xs b off (by rw [en]; exact hc1)) ⟨b2, off2, none⟩ ys.length cap2 (ys.map (Value.int .u8)) (by rw [hsize]; simp) (rd ys b2 off2 hc2) (by omega) (by omega) (growslice_fits (by omega) (by rw [hby]; omega))
  have hge := grownCap_ge w (n + ys.length) n 5
  have hcm : grownCap w (n + ys.length) n 5 ≤ maxLen := grownCap_le_maxLen w (n + ys.length) n 5 (by unfold maxLen; omega)
  refine ⟨_, _, hr, ⟨by simp [en], .inr ⟨w.heap.size, _, _, rfl, hbase, heap_alloc_new w.drew _, hge, hcm, ?_, ?_⟩⟩, ⟨rfl, rfl, rfl, by simp, fun k hk _ => Below.heap_alloc w.drew _ k hk⟩⟩
  · simp only [Array.size_append, List.size_toArray, size_zeroCells, List.length_map, en]
    show n + ys.length + (grownCap w (n + ys.length) n 5 - (n + ys.length)) * 1 = _
    omega
  · simp only [Array.toList_append, List.append_assoc]
    rw [← List.append_assoc, ← List.map_append]
    have e : (n + ys.length) * 1 = ((xs ++ ys).map (Value.int .u8)).length := by simp [en]
    rw [e]
    exact List.take_left
theorem wpList_append_full {w : World} {ops : Array Oper} {rest : List Oper} {o : Oper} {a : Act} {Q : Exit → Act → World → Prop} (hgd : o.guard = none) (p q : Operand)
    (ho : o.op = .call { callee := .builtin .append, args := #[p, q], argTypes := #[22, 22] })
    (base : Nat) (b off n : Nat) (xs : List Int) (en : xs.length = n) (hp : a.eval p = .slice (some ⟨b, off, none⟩) n n) (hx : Row w .u8 (.slice (some ⟨b, off, none⟩) n n) xs)
    (v2 : Value) (ys : List Int) (hq : a.eval q = v2) (hrow : Row w .u8 v2 ys) (h0 : 0 < ys.length) (h1 : 0 < n) (h63 : n + ys.length ≤ 1099511627776) (hbase : base ≤ w.heap.size)
    (h : ∀ v' w', w'.ownsRow base 5 1 v' (n + ys.length) ((xs ++ ys).map (Value.int .u8)) → w.grownBy w' none → wpList Try.prog ops Q rest (a.put o.dst v') w') :
    wpList Try.prog ops Q (o :: rest) a w := by
  obtain ⟨v', w', hr, h2, h3⟩ := run_append_full o.type base b off n xs en hx v2 ys hrow h0 h1 h63 hbase
  refine wpList_plain hgd fun K hK => ?_
  unfold Oper.wp
  simp [execOp, ho, resolve, invoke, builtin, hp, hq, hr, Result.andThen]
  exact hK _ _ (h v' w' h2 h3)

/-- Two results that lie in blocks. -/
theorem results_two {P : Program} {fn : Func} {p q : Tmp} {ty : TypeId} (h : fn.results = #[.cell p ty, .cell q ty]) (tmps : Array Value) (w : World) (g g2 : Nat) (t t2 : TypeId) (cs cs2 : Array Value) (fr fr2 : Nat × Nat) (d : TypeDesc)
    (hp : tmps.getD p undef = .pointer (some ⟨g, 0, none⟩)) (hq : tmps.getD q undef = .pointer (some ⟨g2, 0, none⟩)) (hg : w.heap[g]? = some (.cells cs t fr)) (hg2 : w.heap[g2]? = some (.cells cs2 t2 fr2))
    (hu : P.underlying ty = some d) (hd : (match d with | .struct _ | .array _ _ => true | _ => false) = true) (hi : (P.info? ty).map (·.size) = some cs.size) (hi2 : (P.info? ty).map (·.size) = some cs2.size) :
    (results fn tmps).run P w = .ok (.tuple #[.agg cs, .agg cs2]) w := by
  have hp' : tmps[p]?.getD undef = .pointer (some ⟨g, 0, none⟩) := by simpa using hp
  have hq' : tmps[q]?.getD undef = .pointer (some ⟨g2, 0, none⟩) := by simpa using hq
  simp [results, h, hp', hq', asAddr, run_loadVar_row w g t ty cs fr d hg hu hd hi, run_loadVar_row w g2 t2 ty cs2 fr2 d hg2 hu hd hi2]

def inK : List Int := [105, 110, 105, 116, 105, 97, 108]
def lCin : ByteArray := ⟨#[99, 32, 105, 110]⟩
def lSin : ByteArray := ⟨#[115, 32, 105, 110]⟩
def ikB (v : Int) (cid : List Int) : List Int := digV (inK ++ be v 4) cid
def ikC (v : Int) (cid : List Int) : K4 := keysV (derV (ikB v cid) lCin 16)
def ikD (v : Int) (cid : List Int) : K4 := keysV (derV (ikB v cid) lSin 16)
theorem inK_bytes : Bytes inK := by intro x hx; simp [inK] at hx; omega
theorem inK_row {W : World} {p : Nat} (h : W.heap[p]? = some (.cells #[.int .u8 105, .int .u8 110, .int .u8 105, .int .u8 116, .int .u8 105, .int .u8 97, .int .u8 108] 5 (7, 8))) : Row W .u8 (.slice (some ⟨p, 0, none⟩) 7 7) inK := by
  refine Or.inr ⟨p, 0, 7, rfl, (Array.getElem?_eq_some_iff.1 h).1, ⟨Nat.le_refl _, by unfold maxLen; decide⟩, fun j hj => ?_⟩
  rw [Nat.zero_add, blkS_cell h]
  rcases (show j = 0 ∨ j = 1 ∨ j = 2 ∨ j = 3 ∨ j = 4 ∨ j = 5 ∨ j = 6 by simp [inK] at hj; omega) with rfl | rfl | rfl | rfl | rfl | rfl | rfl <;> rfl
abbrev InF : Obj := .cells #[.int .u8 105, .int .u8 110, .int .u8 105, .int .u8 116, .int .u8 105, .int .u8 97, .int .u8 108] 5 (7, 8)
abbrev Kz : Obj := .cells #[.slice none 0 0, .slice none 0 0, .slice none 0 0, .slice none 0 0] 24 (0, 0)

/-- What both sides answer of InitialKeys. -/
def IkPost (w : World) (z z2 : K4) (e : Ending) (w' : World) : Prop :=
  ∃ r rb mid, e = .returned (.tuple #[r, rb]) ∧ KOwns w' w.heap.size r z ∧ (∀ g, KBlk r g → g < mid) ∧ w.heap.size ≤ mid ∧ mid ≤ w'.heap.size ∧ KOwns w' mid rb z2 ∧ Below w.heap.size w w'
theorem kz_blk (g : Nat) : ¬ KBlk (.agg #[.slice none 0 0, .slice none 0 0, .slice none 0 0, .slice none 0 0]) g := by
  rintro ⟨v0, v1, v2, v3, e, h⟩
  cases e
  rcases h with h | h | h | h <;> cases h
theorem ik_zero {w w' : World} (hb : Below w.heap.size w w') : IkPost w kZero kZero (.returned (.tuple #[.agg #[.slice none 0 0, .slice none 0 0, .slice none 0 0, .slice none 0 0], .agg #[.slice none 0 0, .slice none 0 0, .slice none 0 0, .slice none 0 0]])) w' :=
  ⟨_, _, w'.heap.size, rfl, kzero_owns _ _, fun g hg => absurd hg (kz_blk g), hb.size, Nat.le_refl _, kzero_owns _ _, hb⟩

set_option maxRecDepth 20000 in
theorem ikS_bad (v : Int) (ao : Option Addr) (n cap : Nat) (w : World) (h : ¬ (vok v ∧ n ≤ 8)) (hn : n ≤ 9223372036854775807) :
    Calls Try.prog 4 #[.int .i64 v, .slice ao n cap] w (IkPost w kZero kZero) := by
  by_cases hv : vok v
  · have h8 : 8 < n := by
      rcases Nat.lt_or_ge 8 n with q | q
      · exact q
      · exact absurd ⟨hv, q⟩ h
    have HV : Hid _ := And.intro (sVok v ((w.alloc Kz).alloc Kz) hv) True.intro
    clear h hv
    go_enter Try.func4, Try.ntmps4
    go_wp2_with (go_at_call 12; refine HV.out.1.mono ?_; rintro e w' ⟨rfl, hw⟩; subst w')
    refine bodyPost_ret (v := .tuple #[.agg #[.slice none 0 0, .slice none 0 0, .slice none 0 0, .slice none 0 0], .agg #[.slice none 0 0, .slice none 0 0, .slice none 0 0, .slice none 0 0]]) (by simp [results, Try.results4, go_sem]) rfl ?_
    exact ik_zero (((Below.refl _ _).alloc (Nat.le_refl _) _).alloc (by simp) _)
  · have HV : Hid _ := And.intro (sVbad v ((w.alloc Kz).alloc Kz) hv) True.intro
    clear h hv
    go_enter Try.func4, Try.ntmps4
    go_wp2_with (go_at_call 12; refine HV.out.1.mono ?_; rintro e w' ⟨rfl, hw⟩; subst w')
    refine bodyPost_ret (v := .tuple #[.agg #[.slice none 0 0, .slice none 0 0, .slice none 0 0, .slice none 0 0], .agg #[.slice none 0 0, .slice none 0 0, .slice none 0 0, .slice none 0 0]]) (by simp [results, Try.results4, go_sem]) rfl ?_
    exact ik_zero (((Below.refl _ _).alloc (Nat.le_refl _) _).alloc (by simp) _)

abbrev Wk (w : World) : World := ((w.alloc Kz).alloc Kz).alloc InF
theorem wk_size (w : World) : (Wk w).heap.size = w.heap.size + 3 := by simp
theorem wk_below (w : World) : Below w.heap.size w (Wk w) := (((Below.refl _ _).alloc (Nat.le_refl _) _).alloc (by simp) _).alloc (by simp; omega) _
theorem wk_at (w : World) : (Wk w).heap[w.heap.size]? = some Kz ∧ (Wk w).heap[w.heap.size + 1]? = some Kz ∧ (Wk w).heap[w.heap.size + 2]? = some InF := by
  refine ⟨?_, ?_, ?_⟩
  · rw [Below.heap_alloc _ _ _ (by simp; omega), Below.heap_alloc _ _ _ (by simp)]
    exact (MapKept.heap_alloc w _).1
  · rw [Below.heap_alloc _ _ _ (by simp)]
    have h := (MapKept.heap_alloc (w.alloc Kz) Kz).1
    rw [show (w.alloc Kz).heap.size = w.heap.size + 1 by simp] at h
    exact h
  · have h := (MapKept.heap_alloc ((w.alloc Kz).alloc Kz) InF).1
    rw [show ((w.alloc Kz).alloc Kz).heap.size = w.heap.size + 2 by simp] at h
    exact h
theorem wk_conv (w : World) : (convert 22 22 (.slice (some ⟨w.heap.size + 1 + 1, 0, none⟩) 7 7)).run Try.prog (((w.alloc Kz).alloc Kz).alloc (.cells #[.int .u8 105, .int .u8 110, .int .u8 105, .int .u8 116, .int .u8 105, .int .u8 97, .int .u8 108] 5)) = .ok (.slice (some ⟨w.heap.size + 1 + 1, 0, none⟩) 7 7) (Wk w) := by
  have h := kconst ((w.alloc Kz).alloc Kz) #[.int .u8 105, .int .u8 110, .int .u8 105, .int .u8 116, .int .u8 105, .int .u8 97, .int .u8 108] 7 7
  rw [show ((w.alloc Kz).alloc Kz).heap.size = w.heap.size + 1 + 1 by simp] at h
  exact h
/-- The end: both keys are laid into the results' blocks. -/
theorem ik_end {w w1 w2 w3 w4 : World} {z z2 : K4} {r r2 : Value} (hb1 : Below w.heap.size w w1) (h1 : w.heap.size + 2 ≤ w1.heap.size) (k1 : KOwns w1 (w.heap.size + 2) r z) (b2 : Below w1.heap.size w1 w2) (k2 : KOwns w2 w1.heap.size r2 z2)
    (m3 : Only (some w.heap.size) w2 w3) (m4 : Only (some (w.heap.size + 1)) w3 w4) :
    KOwns w4 w.heap.size r z ∧ (∀ g, KBlk r g → g < w1.heap.size) ∧ w.heap.size ≤ w1.heap.size ∧ w1.heap.size ≤ w4.heap.size ∧ KOwns w4 w1.heap.size r2 z2 ∧ Below w.heap.size w w4 := by
  have c3 : Chg (fun k => k = w.heap.size ∨ k = w.heap.size + 1) w2 w3 := Chg.of_only m3 (fun k e => by cases e; exact Or.inl rfl)
  have c4 : Chg (fun k => k = w.heap.size ∨ k = w.heap.size + 1) w3 w4 := Chg.of_only m4 (fun k e => by cases e; exact Or.inr rfl)
  have c := c3.trans c4
  have s2 := b2.size
  have sc := c.size
  refine ⟨(c.kowns (k1.below b2) (fun g h1 h2 e => by omega)).mono (by omega), fun g hg => (k1.blk g hg).2, by omega, by omega, c.kowns k2 (fun g h3 h2 e => by omega), ?_⟩
  exact (hb1.trans (b2.mono hb1.size)).trans (c.below (by have := hb1.size; omega) (fun k e => by omega))

set_option maxRecDepth 20000 in
set_option maxHeartbeats 4000000 in
theorem ikS_ok (v : Int) (vc : Value) (cid : List Int) (w : World) (hv : vok v) (hr : Row w .u8 vc cid) (hB : Bytes cid) (hl : cid.length ≤ 8) :
    Calls Try.prog 4 #[.int .i64 v, vc] w (IkPost w (ikC v cid) (ikD v cid)) := by
  obtain ⟨ao, cap, rfl⟩ := hr.form
  obtain ⟨n, en⟩ : ∃ n, n = cid.length := ⟨_, rfl⟩
  rw [← en] at hl hr ⊢
  have hv1 := hv.1
  have hv2 := hv.2
  have kc := wk_conv w
  have hdl : (ikB v cid).length = 16 := digV_length _ _
  have hdb : Bytes (ikB v cid) := digV_bytes _ _
  have HH : Hid _ := And.intro (sVok v ((w.alloc Kz).alloc Kz) hv) (And.intro hr (And.intro en (And.intro hB (And.intro hdl hdb))))
  clear hv hr en hB hdl hdb
  go_enter Try.func4, Try.ntmps4
  go_wp2_with (first
    | (go_at_call 12; refine HH.out.1.mono ?_; rintro e w' ⟨rfl, hw⟩; subst w')
    | (go_at_call 14; refine (digits 4 v (Wk w) (by omega) (by omega) (by decide)).mono ?_; rintro e w1 ⟨r1, rfl, o1, b1⟩; have H1 : Hid _ := And.intro (row_of_owns o1) b1; clear o1 b1)
    | (at_builtin; refine wpList_append_full rfl (.tmp 18) (.tmp 20) rfl w1.heap.size (w.heap.size + 1 + 1) 0 7 inK rfl rfl (inK_row ((H1.out.2.block (w.heap.size + 2) (by simp)).trans (wk_at w).2.2)) _ (be v 4) rfl H1.out.1 (by rw [be_length]; decide) (by decide) (by rw [be_length]; decide) (Nat.le_refl _) ?_; intro q2 w2 o2 g2; have H2 : Hid _ := And.intro (row_of_owns o2) (H1.out.2.grown g2 H1.out.2.size (fun q hq => by cases hq)); clear o2 g2)
    | (go_at_call 13; refine (specDigest _ _ (inK ++ be v 4) cid _ H2.out.1 ((HH.out.2.1.below (wk_below w)).below H2.out.2) (bytes_app inK_bytes (be_bytes v 4)) HH.out.2.2.2.1 (by simp [inK, be_length]) (by rw [← HH.out.2.2.1]; omega)).mono ?_; rintro e w3 ⟨r3, rfl, o3, b3⟩; have H3 : Hid _ := And.intro (show Row w3 .u8 r3 (ikB v cid) from row_of_owns o3) (H2.out.2.trans (b3.mono H2.out.2.size)); clear o3 b3))
  go_at_call 16
  refine (specDerive r3 (ikB v cid) lCin 16 w3 H3.out.1 HH.out.2.2.2.2.2 (by rw [HH.out.2.2.2.2.1]; decide) (by decide)).mono ?_
  rintro e w4 ⟨r4, rfl, o4, b4⟩
  have H4 : Hid _ := And.intro (row_of_owns o4) (And.intro (H3.out.1.below b4) (H3.out.2.trans (b4.mono H3.out.2.size)))
  clear o4 b4
  go_wp2_with fail
  go_at_call 15
  refine (specKeysOf r4 (derV (ikB v cid) lCin 16) w4 H4.out.1 (derV_bytes _ _ _) (by have := derV_length (ikB v cid) lCin 16; omega)).mono ?_
  rintro e w5 ⟨r5, rfl, k5, b5⟩
  obtain ⟨a0, a1, a2, a3, p0, p1, p2, p3, er⟩ := k5.parts
  subst er
  have H5 : Hid _ := And.intro k5 (And.intro (H4.out.2.1.below b5) (H4.out.2.2.trans (b5.mono H4.out.2.2.size)))
  clear k5 b5
  go_wp2_with fail
  go_at_call 16
  refine (specDerive r3 (ikB v cid) lSin 16 w5 H5.out.2.1 HH.out.2.2.2.2.2 (by rw [HH.out.2.2.2.2.1]; decide) (by decide)).mono ?_
  rintro e w6 ⟨r6, rfl, o6, b6⟩
  have H6 : Hid _ := And.intro (row_of_owns o6) b6
  clear o6 b6
  go_wp2_with fail
  go_at_call 15
  refine (specKeysOf r6 (derV (ikB v cid) lSin 16) w6 H6.out.1 (derV_bytes _ _ _) (by have := derV_length (ikB v cid) lSin 16; omega)).mono ?_
  rintro e w7 ⟨r7, rfl, k7, b7⟩
  obtain ⟨c0, c1, c2, c3, q0, q1, q2, q3, er⟩ := k7.parts
  subst er
  have B7 : Below (Wk w).heap.size (Wk w) w7 := H5.out.2.2.trans ((H6.out.2.trans (b7.mono H6.out.2.size)).mono H5.out.2.2.size)
  have H7 : Hid _ := And.intro (k7.mono H6.out.2.size) (And.intro (H6.out.2.trans (b7.mono H6.out.2.size)) (And.intro ((B7.block w.heap.size (by simp; omega)).trans (wk_at w).1) ((B7.block (w.heap.size + 1) (by simp)).trans (wk_at w).2.1)))
  clear k7 b7 B7
  go_wp2_with (first
    | (refine wpList_store_at rfl 24 (.tmp 4) (.tmp 26) rfl w.heap.size _ rfl rfl 24 _ H7.out.2.2.1 infoKeys4 rfl (by simp [Value.oneCell']) ?_; intro w8 h8 m8; have H8 : Hid _ := And.intro m8 (And.intro h8 ((m8.block (w.heap.size + 1) (fun e => by have := Option.some.inj e; omega)).trans H7.out.2.2.2)); clear m8 h8)
    | (refine wpList_store_at rfl 24 (.tmp 5) (.tmp 29) rfl (w.heap.size + 1) _ rfl rfl 24 _ H8.out.2.2 infoKeys4 rfl (by simp [Value.oneCell']) ?_; intro w9 h9 m9))
  try simp only [Exit.inBlock, Exit.then]
  refine bodyPost_ret (v := .tuple #[.agg #[.slice a0 (keysV (derV (ikB v cid) lCin 16)).a.length p0, .slice a1 (keysV (derV (ikB v cid) lCin 16)).b.length p1, .slice a2 (keysV (derV (ikB v cid) lCin 16)).c.length p2, .slice a3 (keysV (derV (ikB v cid) lCin 16)).d.length p3], .agg #[.slice c0 (keysV (derV (ikB v cid) lSin 16)).a.length q0, .slice c1 (keysV (derV (ikB v cid) lSin 16)).b.length q1, .slice c2 (keysV (derV (ikB v cid) lSin 16)).c.length q2, .slice c3 (keysV (derV (ikB v cid) lSin 16)).d.length q3]]) ?_ rfl ?_
  · exact results_two rfl _ _ w.heap.size (w.heap.size + 1) _ _ _ _ (0, 0) (0, 0) _ rfl rfl ((m9.block w.heap.size (fun e => by have := Option.some.inj e; omega)).trans H8.out.2.1) h9 Try.underlying24 rfl infoKeys4 infoKeys4
  · have hs5 := H5.out.2.2.size
    have hs4 := H4.out.2.2.size
    have hw3 := wk_size w
    obtain ⟨x1, x2, x3, x4, x5, x6⟩ := ik_end ((wk_below w).trans (H5.out.2.2.mono (wk_below w).size)) (by omega) (H5.out.1.mono (by omega)) H7.out.2.1 H7.out.1 H8.out.1 m9
    exact ⟨_, _, w5.heap.size, rfl, x1, x2, x3, x4, x5, x6⟩
end Go.Proofs.Ytjdmknlcjejecaa
