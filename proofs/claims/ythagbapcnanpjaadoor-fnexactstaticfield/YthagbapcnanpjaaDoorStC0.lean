import Derived.Test.YthagbapcnanpjaaDoorStB0
import Derived.Test.YthagbapcnanpjaaDoorStB1
import Derived.Test.YthagbapcnanpjaaDoorStB2
import Derived.Test.YthagbapcnanpjaaDoorStB3
import Derived.Lib.LaidTab
import Derived.ChangeSame
import Derived.ChangeMaps5
namespace Go.Proofs.YthagbapcnanpjaaDoor
open Go.RowKit
set_option linter.unusedVariables false

/-- The fixed table, as bytes. -/
def stL : List (List UInt8 × List UInt8) := [([58, 112, 97, 116, 104], [47]), ([58, 109, 101, 116, 104, 111, 100], [71, 69, 84]), ([58, 109, 101, 116, 104, 111, 100], [80, 79, 83, 84]), ([58, 109, 101, 116, 104, 111, 100], [72, 69, 65, 68]), ([58, 109, 101, 116, 104, 111, 100], [68, 69, 76, 69, 84, 69]), ([58, 97, 117, 116, 104, 111, 114, 105, 116, 121], []), ([58, 115, 99, 104, 101, 109, 101], [104, 116, 116, 112, 115]), ([58, 115, 116, 97, 116, 117, 115], [50, 48, 48]), ([58, 115, 116, 97, 116, 117, 115], [50, 48, 52]), ([58, 115, 116, 97, 116, 117, 115], [50, 48, 54]), ([58, 115, 116, 97, 116, 117, 115], [51, 48, 52]), ([58, 115, 116, 97, 116, 117, 115], [52, 48, 48]), ([58, 115, 116, 97, 116, 117, 115], [52, 48, 52]), ([58, 115, 116, 97, 116, 117, 115], [52, 48, 53]), ([58, 115, 116, 97, 116, 117, 115], [53, 48, 48]), ([97, 99, 99, 101, 112, 116], [42, 47, 42]), ([99, 111, 110, 116, 101, 110, 116, 45, 108, 101, 110, 103, 116, 104], [48]), ([99, 111, 110, 116, 101, 110, 116, 45, 116, 121, 112, 101], [116, 101, 120, 116, 47, 112, 108, 97, 105, 110]), ([99, 111, 110, 116, 101, 110, 116, 45, 116, 121, 112, 101], [97, 112, 112, 108, 105, 99, 97, 116, 105, 111, 110, 47, 106, 115, 111, 110]), ([99, 111, 111, 107, 105, 101], []), ([100, 97, 116, 101], []), ([101, 116, 97, 103], []), ([108, 111, 99, 97, 116, 105, 111, 110], []), ([112, 114, 105, 111, 114, 105, 116, 121], [])]
def stA (i : Nat) : ByteArray := ⟨(stL.getD i ([], [])).1.toArray⟩
def stB (i : Nat) : ByteArray := ⟨(stL.getD i ([], [])).2.toArray⟩
/-- The program's table. -/
def TabS (W : World) : Prop := ∀ i, i < 24 → W.cell? ⟨0, i * 2, none⟩ = some (.string (stA i)) ∧ W.cell? ⟨0, i * 2 + 1, none⟩ = some (.string (stB i))
theorem TabS.below {W W' : World} (h : TabS W) (hb : Below W.heap.size W W') (hG : 0 < W.heap.size) : TabS W' := fun i hi =>
  ⟨(hb.cell (p := ⟨0, i * 2, none⟩) hG).trans (h i hi).1, (hb.cell (p := ⟨0, i * 2 + 1, none⟩) hG).trans (h i hi).2⟩
theorem TabS.lt {W : World} (h : TabS W) : 0 < W.heap.size := by
  have := (h 0 (by decide)).1
  by_cases hG : 0 < W.heap.size
  · exact hG
  · rw [World.cell?, Array.getElem?_eq_none (by omega)] at this
    cases this
theorem ssS (i : Nat) (hi : i < 24) (w : World) :
    Calls Tryd.prog 5 #[.int .i64 (i : Int)] w fun e w' => e = .returned (.tuple #[.agg #[.string (stA i), .string (stB i)], .int .i64 0]) ∧ Below w.heap.size w w' := by
  rcases (show i = 0 ∨ i = 1 ∨ i = 2 ∨ i = 3 ∨ i = 4 ∨ i = 5 ∨ i = 6 ∨ i = 7 ∨ i = 8 ∨ i = 9 ∨ i = 10 ∨ i = 11 ∨ i = 12 ∨ i = 13 ∨ i = 14 ∨ i = 15 ∨ i = 16 ∨ i = 17 ∨ i = 18 ∨ i = 19 ∨ i = 20 ∨ i = 21 ∨ i = 22 ∨ i = 23 by omega) with rfl | rfl | rfl | rfl | rfl | rfl | rfl | rfl | rfl | rfl | rfl | rfl | rfl | rfl | rfl | rfl | rfl | rfl | rfl | rfl | rfl | rfl | rfl | rfl
  · exact ssS_0 w
  · exact ssS_1 w
  · exact ssS_2 w
  · exact ssS_3 w
  · exact ssS_4 w
  · exact ssS_5 w
  · exact ssS_6 w
  · exact ssS_7 w
  · exact ssS_8 w
  · exact ssS_9 w
  · exact ssS_10 w
  · exact ssS_11 w
  · exact ssS_12 w
  · exact ssS_13 w
  · exact ssS_14 w
  · exact ssS_15 w
  · exact ssS_16 w
  · exact ssS_17 w
  · exact ssS_18 w
  · exact ssS_19 w
  · exact ssS_20 w
  · exact ssS_21 w
  · exact ssS_22 w
  · exact ssS_23 w
theorem ssI_bad (i : Int) (w : World) (h : i < 0 ∨ 24 ≤ i) :
    Calls Tryd.prog 6 #[.int .i64 i] w fun e w' => e = .returned (.tuple #[.agg #[.string ⟨#[]⟩, .string ⟨#[]⟩], .int .i64 16]) ∧ Below w.heap.size w w' := by
  by_cases h0 : i < 0
  · clear h
    go_enter Tryd.func6, Tryd.ntmps6
    go_wp2
    refine bodyPost_ret (v := .tuple #[.agg #[.string ⟨#[]⟩, .string ⟨#[]⟩], .int .i64 16]) (by simp [results, Tryd.results6, go_sem]) rfl ?_
    exact ⟨rfl, (Below.refl _ _).alloc (Nat.le_refl _) _⟩
  · have h1 : 24 ≤ i := by omega
    clear h
    go_enter Tryd.func6, Tryd.ntmps6
    go_wp2
    refine bodyPost_ret (v := .tuple #[.agg #[.string ⟨#[]⟩, .string ⟨#[]⟩], .int .i64 16]) (by simp [results, Tryd.results6, go_sem]) rfl ?_
    exact ⟨rfl, (Below.refl _ _).alloc (Nat.le_refl _) _⟩
theorem ssI (i : Nat) (hi : i < 24) (w : World) (hT : TabS w) :
    Calls Tryd.prog 6 #[.int .i64 (i : Int)] w fun e w' => e = .returned (.tuple #[.agg #[.string (stA i), .string (stB i)], .int .i64 0]) ∧ Below w.heap.size w w' := by
  have hl := hT.lt
  obtain ⟨c0, c1⟩ := hT i hi
  obtain ⟨a, ea⟩ : ∃ a, a = stA i := ⟨_, rfl⟩
  obtain ⟨b, eb⟩ : ∃ b, b = stB i := ⟨_, rfl⟩
  rw [← ea] at c0 ⊢
  rw [← eb] at c1 ⊢
  clear ea eb hT
  go_enter Tryd.func6, Tryd.ntmps6
  go_wp2
  refine bodyPost_ret (v := .tuple #[.agg #[.string a, .string b], .int .i64 0]) (by simp [results, Tryd.results6, go_sem]) rfl ?_
  exact ⟨rfl, (Below.refl _ _).alloc (Nat.le_refl _) _⟩
theorem beq_refl' (x : ByteArray) : (x == x) = true := by show (x.data == x.data) = true; exact beq_self_eq_true _
theorem eqFld (a b : ByteArray) (w : World) :
    Calls Tryd.prog 7 #[.agg #[.string a, .string b], .agg #[.string a, .string b]] w fun e w' => e = .returned (.bool true) ∧ Below w.heap.size w w' := by
  have ha : (a != a) = false := by simp [bne, beq_refl']
  have hb : (b != b) = false := by simp [bne, beq_refl']
  go_enter Tryd.func7, Tryd.ntmps7
  go_wp2
  go_ret
  exact ⟨rfl, ((Below.refl _ _).alloc (Nat.le_refl _) _).alloc (by simp) _⟩
theorem ssLaw (i c : Int) (a b : ByteArray) (w : World)
    (hS : ∀ u : World, Calls Tryd.prog 5 #[.int .i64 i] u fun e w' => e = .returned (.tuple #[.agg #[.string a, .string b], .int .i64 c]) ∧ Below u.heap.size u w')
    (hI : ∀ u : World, Below w.heap.size w u → Calls Tryd.prog 6 #[.int .i64 i] u fun e w' => e = .returned (.tuple #[.agg #[.string a, .string b], .int .i64 c]) ∧ Below u.heap.size u w') :
    Calls Tryd.prog 3 #[.int .i64 i] w fun e w' => e = .returned (.bool true) ∧ Below w.heap.size w w' := by
  have hc : (c != c) = false := by simp
  have H : Hid _ := And.intro hS hI
  clear hS hI
  go_enter Tryd.func3, Tryd.ntmps3
  go_wp2_with fail
  go_at_call 5
  refine (H.out.1 _).mono ?_
  rintro e w1 ⟨rfl, b1⟩
  have b1' := b1.trans (((Below.refl _ _).alloc (Nat.le_refl _) (.cells #[.string a, .string b] 23)).mono b1.size)
  have H1 : Hid _ := And.intro b1' True.intro
  have e1 : (w1.alloc (.cells #[.string a, .string b] 23)).heap[w1.heap.size]? = some (.cells #[.string a, .string b] 23 (0, 0)) := (MapKept.heap_alloc _ _).1
  have E1 : Hid _ := e1
  clear b1 b1' e1
  go_wp2_with fail
  go_at_call 6
  refine (H.out.2 _ H1.out.1).mono ?_
  rintro e w2 ⟨rfl, b2⟩
  have H2 : Hid _ := And.intro (H1.out.1.trans (b2.mono H1.out.1.size)) True.intro
  have k1 : w2.heap[w1.heap.size]? = some (.cells #[.string a, .string b] 23 (0, 0)) := (b2.block _ (by simp)).trans E1.out
  have z2 : w1.heap.size < w2.heap.size := (Array.getElem?_eq_some_iff.1 k1).1
  have B2 := ((Below.refl w2.heap.size w2).alloc (Nat.le_refl _) (.cells #[.string a, .string b] 23))
  have k2 : (w2.alloc (.cells #[.string a, .string b] 23)).heap[w1.heap.size]? = some (.cells #[.string a, .string b] 23 (0, 0)) := (B2.block _ z2).trans k1
  have d0 : (w2.alloc (.cells #[.string a, .string b] 23)).cell? ⟨w1.heap.size, 0, none⟩ = some (.string a) := by simp only [World.cell?, k2]; rfl
  have d1 : (w2.alloc (.cells #[.string a, .string b] 23)).cell? ⟨w1.heap.size, 1, none⟩ = some (.string b) := by simp only [World.cell?, k2]; rfl
  have H3 : Hid _ := And.intro (H2.out.1.trans (B2.mono H2.out.1.size)) True.intro
  clear b2 k1 k2 B2
  go_wp2_with (go_at_call 7; refine (eqFld a b _).mono ?_; rintro e w3 ⟨rfl, b3⟩; have H4 : Hid _ := And.intro (H3.out.1.trans (b3.mono H3.out.1.size)) True.intro; clear b3)
  go_ret
  exact ⟨rfl, H4.out.1⟩
theorem fnExactStaticField_walk (i : Int) (_ : (Lit.int .i64 i).wf = true) (w : World) (hT : TabS w) :
    Calls Tryd.prog 3 #[.int .i64 i] w fun e w' => e = .returned (.bool true) ∧ Below w.heap.size w w' := by
  by_cases h : i < 0 ∨ 24 ≤ i
  · exact ssLaw i 16 _ _ w (fun u => ssS_bad i u h) (fun u _ => ssI_bad i u h)
  · obtain ⟨j, rfl⟩ := Int.eq_ofNat_of_zero_le (show 0 ≤ i by omega)
    exact ssLaw j 0 _ _ w (fun u => ssS j (by omega) u) (fun u hb => ssI j (by omega) u (hT.below hb hT.lt))
/-- An array of pairs of texts that reads as the table. -/
theorem cells_of_fields {H : Type} {enc : TypeId × Value → H} {P : Program} {w : World} {base : Nat} {sp : Nat → Bool} {held : Bool} {fuel n : Nat} {t e u : TypeId} {f0 f1 : Field} {cs : List Value} {L : List (List UInt8 × List UInt8)} {p : List MemPlace}
    (ht : P.underlying t = some (.array n e)) (he : P.underlying e = some (.struct #[f0, f1])) (hf0 : f0.type = u ∧ f0.offset = 0) (hf1 : f1.type = u ∧ f1.offset = 1) (hu : P.underlying u = some .string) (hcu : P.cellsOf u = 1) (hce : P.cellsOf e = 2) (hct : P.cellsOf t = n * 2)
    (h : DataW.trod enc P w base sp held fuel t cs = some (.agg (L.map fun x => .agg [.lit (.string x.1), .lit (.string x.2)]), p)) : ∀ i a b, i < n → L[i]? = some (a, b) → cs[i * 2]? = some (.string ⟨a.toArray⟩) ∧ cs[i * 2 + 1]? = some (.string ⟨b.toArray⟩) := by
  cases fuel with
  | zero => simp [DataW.trod] at h
  | succ fuel =>
    simp only [DataW.trod, ht, hce, hct] at h
    split at h
    · rename_i hl
      obtain ⟨xs, hm, hx⟩ := Option.map_eq_some_iff.1 h
      intro i a b hi hL
      obtain ⟨y, hy, h0⟩ := Lib.mapM_at hm i i (by simp [hi])
      have hxs : xs.map (·.1) = L.map fun x => DataW.agg [.lit (.string x.1), .lit (.string x.2)] := by
        have := congrArg Prod.fst hx
        simpa using this
      have ey : y.1 = .agg [.lit (.string a), .lit (.string b)] := by
        have := congrArg (·[i]?) hxs
        simpa [hy, hL] using this
      obtain ⟨y0, y1, m, e0, _, g0, g1⟩ := Go.ChangeShapes.trod_struct2 he h0
      rw [e0] at ey
      simp at ey
      rw [hf0.1, hf0.2, hcu] at g0
      rw [hf1.1, hf1.2, hcu] at g1
      obtain ⟨s0, c0, x0, _⟩ := DataW.trod_string hu g0
      obtain ⟨s1, c1, x1, _⟩ := DataW.trod_string hu g1
      rw [x0, x1] at ey
      simp at ey
      have q0 : cs[i * 2]? = some (.string s0) := by
        have := congrArg (·[0]?) c0
        simpa [List.getElem?_take, List.getElem?_drop, Nat.mul_comm] using this
      have q1 : cs[i * 2 + 1]? = some (.string s1) := by
        have := congrArg (·[0]?) c1
        simpa [List.getElem?_take, List.getElem?_drop, Nat.mul_comm] using this
      rw [q0, q1, ← ey.1, ← ey.2]
      exact ⟨rfl, rfl⟩
    · cases h
theorem tabS_of_laid {W : World} {rest : List (String × DataW Unit)} {g : Nat} {t e u : TypeId} {f0 f1 : Field}
    (hg : Tryd.prog.globalNamed "loop.example/g00012/impl.staticFields" = some g) (hty : (Tryd.prog.globals[g]?).map (·.type) = some t) (ht : Tryd.prog.underlying t = some (.array 24 e)) (he : Tryd.prog.underlying e = some (.struct #[f0, f1])) (hf0 : f0.type = u ∧ f0.offset = 0) (hf1 : f1.type = u ∧ f1.offset = 1) (hu : Tryd.prog.underlying u = some .string) (hcu : Tryd.prog.cellsOf u = 1) (hce : Tryd.prog.cellsOf e = 2) (hct : Tryd.prog.cellsOf t = 48)
    (h : laidMet Tryd.prog (("loop.example/g00012/impl.staticFields", .agg (stL.map fun x => .agg [.lit (.string x.1), .lit (.string x.2)])) :: rest) W) : TabS W := by
  obtain ⟨ps, ⟨g', t', cs, fuel, p, q, hg', ht', hvar, hd, _, _⟩, _⟩ := h
  obtain rfl := Option.some.inj (hg.symm.trans hg')
  obtain rfl := Option.some.inj (hty.symm.trans ht')
  have hcs := cells_of_fields ht he hf0 hf1 hu hcu hce hct hd
  have eg : g = 0 := Option.some.inj (hg.symm.trans (by kernel_rfl))
  subst eg
  intro i hi
  have hL : stL[i]? = some ((stL.getD i ([], [])).1, (stL.getD i ([], [])).2) := by
    have : i < stL.length := hi
    simp [List.getD, this]
  obtain ⟨a1, a2⟩ := hcs i _ _ hi hL
  have cell : ∀ i, W.cell? ⟨0, i, none⟩ = _ := fun i => World.var?_cell hg hvar i
  rw [cell, cell]
  exact ⟨by simpa [stA, List.getD] using a1, by simpa [stB, List.getD] using a2⟩
end Go.Proofs.YthagbapcnanpjaaDoor
