import Derived.Test.YteggfkekgdlecaaGreatDoorAg_T
import Derived.Test.YteggfkekgdlecaaGreatDoorAg_U
import Derived.Test.YteggfkekgdlecaaGreatDoorAg_X
import Derived.Test.YteggfkekgdlecaaGreatDoorCards
import Derived.Test.YteggfkekgdlecaaGreatDoorTie
import Derived.Test.YteggfkekgdlecaaGreatDoorLiftHel
import Derived.Lib.LaidTab
namespace Go.Proofs.YteggfkekgdlecaaGreatDoor
open Go.RowKit
set_option linter.unusedVariables false

theorem ag_huge0 (ao : Option Addr) (n cp : Nat) (v1 v2 : Value) (k1 k2 : HE) (w : World) (row1 : HERow w v1 k1) (row2 : HERow w v2 k2) (h : 1048576 < n) (m : n ≤ 9223372036854775807) :
    Calls Tryz.prog 3 #[.slice ao n cp, v1, v2] w fun e w' => e = .returned (.bool true) ∧ Below w.heap.size w w' := by
  obtain ⟨CA, rfl, _⟩ := he_cells row1
  obtain ⟨CB, rfl, _⟩ := he_cells row2
  clear row1 row2
  go_enter Tryz.func3, Tryz.ntmps3
  go_wp2
  go_ret
  exact ⟨rfl, ((Below.refl _ _).alloc (Nat.le_refl _) _).alloc (by simp) _⟩
set_option maxRecDepth 20000 in
set_option maxHeartbeats 4000000 in
theorem ag_huge (over2 : Bool) (ao : Option Addr) (n cp : Nat) (v1 v2 : Value) (k1 k2 : HE) (w : World) (row1 : HERow w v1 k1) (row2 : HERow w v2 k2) (h : n ≤ 1048576) (s1 : k1.small 9223372036854775807 ∧ k1.texts 9223372036854775807) (s2 : k2.small 9223372036854775807 ∧ k2.texts 9223372036854775807)
    (ho : over2 = false → 1048576 < k1.total) (ho2 : over2 = true → k1.total ≤ 1048576 ∧ 1048576 < k1.total + k2.total) :
    Calls Tryz.prog 3 #[.slice ao n cp, v1, v2] w fun e w' => e = .returned (.bool true) ∧ Below w.heap.size w w' := by
  obtain ⟨CA, eCA, sCA⟩ := he_cells row1
  obtain ⟨CB, eCB, sCB⟩ := he_cells row2
  subst eCA
  subst eCB
  have SZCA : Hid ((Tryz.prog.info? 28).map (·.size) = some CA.size) := by rw [sCA]; exact infoHelLA
  have SZCB : Hid ((Tryz.prog.info? 28).map (·.size) = some CB.size) := by rw [sCB]; exact infoHelLA
  have WB : Below w.heap.size w ((w.alloc (.cells CA 28)).alloc (.cells CB 28)) := ((Below.refl _ _).alloc (Nat.le_refl _) _).alloc (by simp) _
  have h4 : ((w.alloc (.cells CA 28)).alloc (.cells CB 28)).heap[w.heap.size]? = some (.cells CA 28 (0, 0)) := by rw [Below.heap_alloc _ _ _ (by simp)]; exact heap_alloc_new w _
  have h5 : ((w.alloc (.cells CA 28)).alloc (.cells CB 28)).heap[w.heap.size + 1]? = some (.cells CB 28 (0, 0)) := by have h := heap_alloc_new (w.alloc (.cells CA 28)) (.cells CB 28); simpa using h
  have tt1 : 0 ≤ k1.total := hetot_nn _
  obtain ⟨Wa, eWa⟩ : ∃ x, x = (w.alloc (.cells CA 28)).alloc (.cells CB 28) := ⟨_, rfl⟩
  rw [← eWa] at WB h4 h5
  have EW : Hid _ := And.intro eWa (And.intro WB (And.intro h4 h5))
  have ER : Hid _ := And.intro row1 row2
  have ES : Hid _ := And.intro s1 s2
  cases over2 with
  | false =>
    have C := heszO _ k1 1048576 _ (row1.below WB) s1 (by decide) (by decide) (ho rfl)
    have HC : Hid _ := And.intro C True.intro
    clear C row1 row2 s1 s2 ho ho2 WB h4 h5 eWa sCA sCB tt1
    go_enter Tryz.func3, Tryz.ntmps3
    go_upto_region 1 with fail
    rw [show (w.alloc (.cells CA 28)).alloc (.cells CB 28) = Wa from EW.out.1.symm]
    go_wp2_with (refine wpList_load_row rfl 28 _ rfl w.heap.size rfl 28 CA (0, 0) _ EW.out.2.2.1 Tryz.underlying28 rfl SZCA.out ?_)
    go_at_call 4
    refine HC.out.1.mono ?_
    rintro e w1 ⟨rfl, b1⟩
    have HB : Hid _ := EW.out.2.1.trans (b1.mono EW.out.2.1.size)
    clear b1
    go_wp2
    go_ret
    exact ⟨rfl, HB.out⟩
  | true =>
    obtain ⟨o1, o2⟩ := ho2 rfl
    have C := heszF _ k1 1048576 _ (row1.below WB) s1.1 (by decide) (by decide) o1
    obtain ⟨lt, el⟩ : ∃ lt, lt = 1048576 - k1.total := ⟨_, rfl⟩
    have C2 : ∀ wx, Below w.heap.size w wx → _ := fun wx b => heszO _ k2 lt wx (row2.below b) s2 (by omega) (by omega) (by omega)
    rw [← el] at C
    have lt0 : ¬ lt < 0 := by omega
    have HC : Hid _ := And.intro C C2
    clear C C2 row1 row2 s1 s2 ho ho2 WB h4 h5 eWa sCA sCB tt1 el o1 o2
    go_enter Tryz.func3, Tryz.ntmps3
    go_upto_region 1 with fail
    rw [show (w.alloc (.cells CA 28)).alloc (.cells CB 28) = Wa from EW.out.1.symm]
    go_wp2_with (refine wpList_load_row rfl 28 _ rfl w.heap.size rfl 28 CA (0, 0) _ EW.out.2.2.1 Tryz.underlying28 rfl SZCA.out ?_)
    go_at_call 4
    refine HC.out.1.mono ?_
    rintro e w1 ⟨rfl, b1⟩
    have H1 : Hid _ := And.intro (EW.out.2.1.trans (b1.mono EW.out.2.1.size)) ((b1.block _ (Array.getElem?_eq_some_iff.1 EW.out.2.2.2).1).trans EW.out.2.2.2)
    clear b1
    go_wp2_with (refine wpList_load_row rfl 28 _ rfl (w.heap.size + 1) rfl 28 CB (0, 0) _ H1.out.2 Tryz.underlying28 rfl SZCB.out ?_)
    go_at_call 4
    refine (HC.out.2 _ H1.out.1).mono ?_
    rintro e w2 ⟨rfl, b2⟩
    have HB : Hid _ := H1.out.1.trans (b2.mono H1.out.1.size)
    clear b2
    go_wp2
    go_ret
    exact ⟨rfl, HB.out⟩
theorem derV_le (ss : List Int) (s : ByteArray) (n : Int) : (derV ss s n).length ≤ 64 := by
  unfold derV
  split
  · rename_i h
    rw [drvV_length _ _ _ (by omega)]
    omega
  · simp
theorem agR_small (ss : List Int) (c s : HE) : (agR ss c s).small 64 := by
  unfold agR
  split
  · exact ⟨derV_le (agRt ss c s) lC1 16, derV_le (agRt ss c s) lS1 16, derV_le (agRt ss c s) lC2 16, derV_le (agRt ss c s) lS2 16, derV_le (agRt ss c s) lCk 8⟩
  · exact ⟨by simp [AG.zero], by simp [AG.zero], by simp [AG.zero], by simp [AG.zero], by simp [AG.zero]⟩
theorem fnExactAgree_walk (v0 : Value) (x0 : List Int) (v1 : Value) (k1 : HE) (v2 : Value) (k2 : HE) (l0 : x0.length ≤ maxLen) (wf0 : ∀ x ∈ x0, (Lit.int .u8 x).wf = true) (sm1 : k1.small maxLen) (tx1 : k1.texts maxLen) (kb1 : Bytes k1.rnd ∧ k1.par.bytes) (kw1 : ∀ x ∈ k1.vers, (Lit.int .i64 x).wf = true)
    (sm2 : k2.small maxLen) (tx2 : k2.texts maxLen) (kb2 : Bytes k2.rnd ∧ k2.par.bytes) (kw2 : ∀ x ∈ k2.vers, (Lit.int .i64 x).wf = true) (w : World) (row0 : Row w .u8 v0 x0) (row1 : HERow w v1 k1) (row2 : HERow w v2 k2) (ht : Tab w) :
    Calls Tryz.prog 3 #[v0, v1, v2] w fun e w' => e = .returned (.bool true) ∧ Below w.heap.size w w' := by
  have m0 : x0.length ≤ 9223372036854775807 := by unfold maxLen at l0; omega
  have s1 : k1.small 9223372036854775807 ∧ k1.texts 9223372036854775807 := he_mono2 ⟨sm1, tx1⟩ (by unfold maxLen; decide)
  have s2 : k2.small 9223372036854775807 ∧ k2.texts 9223372036854775807 := he_mono2 ⟨sm2, tx2⟩ (by unfold maxLen; decide)
  by_cases g0 : 1048576 < x0.length
  · obtain ⟨ao, cp, rfl⟩ := row0.form
    exact ag_huge0 ao _ cp v1 v2 k1 k2 w row1 row2 g0 m0
  by_cases g1 : 1048576 < k1.total
  · obtain ⟨ao, cp, rfl⟩ := row0.form
    exact ag_huge false ao _ cp v1 v2 k1 k2 w row1 row2 (by omega) s1 s2 (fun _ => g1) (fun h => by cases h)
  by_cases g2 : 1048576 < k1.total + k2.total
  · obtain ⟨ao, cp, rfl⟩ := row0.form
    exact ag_huge true ao _ cp v1 v2 k1 k2 w row1 row2 (by omega) s1 s2 (fun h => by cases h) (fun _ => ⟨by omega, g2⟩)
  have t1 : 0 ≤ k1.total := hetot_nn _
  have t2 : 0 ≤ k2.total := hetot_nn _
  have bb : Bytes x0 := bytes_of_wf wf0
  exact agLaw v0 v1 v2 x0 k1 k2 (agR x0 k1 k2) (agC x0 k1 k2) w (fun u => Tab u) (fun u h => ht.below h ht.lt) row0 (by omega) row1 row2 (he_small (by show k1.total ≤ ((1048576 : Nat) : Int); omega)).1 (he_small (by show k2.total ≤ ((1048576 : Nat) : Int); omega)).1 (by omega) (agR_small _ _ _)
    (fun w u0 u1 u2 r0 r1 r2 => agS u0 u1 u2 x0 k1 k2 w r0 bb (by omega) r1 r2 s1.1 s2.1 kb1 kb2)
    (fun w u0 u1 u2 t r0 r1 r2 => agI u0 u1 u2 x0 k1 k2 w t r0 bb (by omega) r1 r2 s1.1 s2.1 kb1 kb2 tx1 tx2 kw1 kw2)
end Go.Proofs.YteggfkekgdlecaaGreatDoor

namespace Go.Proofs.YteggfkekgdlecaaGreatDoor.fnExactAgree
open Go.ChangeShapes Go.WideShapes Go.ChangeAt Go.RowKit
set_option linter.unusedVariables false

theorem own : ownKnob Tryz.prog.godebug = none := by kernel_rfl
theorem laidOut : laidOutB Tryz.prog = true := by kernel_rfl
theorem cells_b : Tryz.prog.cellsOf 5 = 1 := by kernel_rfl
theorem gTab : Tryz.prog.globalNamed "loop.example/g00012/impl.varFormLengths" = some 0 := by kernel_rfl
theorem gTabType : (Tryz.prog.globals[0]?).map (·.type) = some 133 := by kernel_rfl
theorem cellsArr : Tryz.prog.cellsOf 133 = 4 := by kernel_rfl
theorem cellsInt : Tryz.prog.cellsOf 3 = 1 := by kernel_rfl

theorem table {W : World} (h : laidMetH Tryz.prog Rows.fnExactAgreeRow.laid W) : Tab W := by
  have t : Lib.TabIs Tryz.prog W "loop.example/g00012/impl.varFormLengths" .i64 [1, 2, 4, 8] :=
    Lib.tabIs_of_head (rest := []) gTab gTabType Tryz.underlying133 Tryz.underlying3 cellsInt cellsArr h
  exact ⟨t.cell gTab 0 (by decide), t.cell gTab 1 (by decide), t.cell gTab 2 (by decide), t.cell gTab 3 (by decide)⟩

set_option maxRecDepth 20000 in
theorem contract (H : Type) (enc : TypeId × Value → H) (W : World) (base : Nat) (args : Array Value) (ds gs : List (DataW H)) (before : List MemPlace)
    (hval : ∀ (j : Nat) t v, Tryz.f3.params[j]? = some t → args[j]? = some v → Value.okWide Tryz.prog W .any base t v)
    (hW : DataW.Whole enc Tryz.prog Tryz.f3.params.toList Rows.fnExactAgreeSpec.vars false W args.toList ds gs before) (hL : laidMetH Tryz.prog Rows.fnExactAgreeRow.laid W) :
    Calls Tryz.prog 3 args W fun e W' => ∃ v, e = .returned v ∧ Rows.fnExactAgreeSpec.post enc Tryz.prog Tryz.f3 false true false false W args v W' := by
  have hW' := hW
  obtain ⟨p, q, hA0, hV, rfl, hfz, hnd⟩ := hW
  have hA : DataW.TrodAll enc Tryz.prog W 0 (fun _ => true) true Tryz.f3.params.toList args.toList ds p := hA0
  rw [Tryz.params3] at hA hval
  obtain ⟨v0, vs0, d0, ds0, p0, q0, hargs, rfl, rfl, h0, r0⟩ := trodAll_cons hA
  obtain ⟨v1, vs1, d1, ds1, p1, q1, rfl, rfl, rfl, h1, r1⟩ := trodAll_cons r0
  obtain ⟨v2, vs2, d2, ds2, p2, q2, rfl, rfl, rfl, h2, r2⟩ := trodAll_cons r1
  obtain ⟨rfl, rfl, rfl⟩ := trodAll_nil r2
  obtain rfl : args = #[v0, v1, v2] := by cases args; simp_all
  obtain ⟨g, t, cs, fuel, dg, pg, rfl, -⟩ := trodVars_one hV
  obtain ⟨xs0, row0, len0, wf0⟩ := open_row Tryz.underlying22 Tryz.underlying5 cells_b (hval 0 22 v0 rfl rfl) h0
  obtain ⟨k1, row1, sm1, tx1, kb1, kw1⟩ := open_hel Tryz.underlying28 (by kernel_rfl) ⟨⟨rfl, rfl, rfl, rfl, rfl, rfl⟩, ⟨rfl, rfl, rfl, rfl, rfl, rfl⟩⟩ Tryz.underlying26 (by kernel_rfl) ⟨rfl, rfl, rfl, rfl, rfl, rfl, rfl, rfl, rfl, rfl, rfl, rfl, rfl⟩ ⟨by kernel_rfl, by kernel_rfl, by kernel_rfl, by kernel_rfl, by kernel_rfl⟩ Tryz.underlying3 Tryz.underlying4 Tryz.underlying22 Tryz.underlying5 cells_b Tryz.underlying23 Tryz.underlying3 (by kernel_rfl) Tryz.underlying24 Tryz.underlying9 (by kernel_rfl) (hval 1 28 v1 rfl rfl) h1
  obtain ⟨k2, row2, sm2, tx2, kb2, kw2⟩ := open_hel Tryz.underlying28 (by kernel_rfl) ⟨⟨rfl, rfl, rfl, rfl, rfl, rfl⟩, ⟨rfl, rfl, rfl, rfl, rfl, rfl⟩⟩ Tryz.underlying26 (by kernel_rfl) ⟨rfl, rfl, rfl, rfl, rfl, rfl, rfl, rfl, rfl, rfl, rfl, rfl, rfl⟩ ⟨by kernel_rfl, by kernel_rfl, by kernel_rfl, by kernel_rfl, by kernel_rfl⟩ Tryz.underlying3 Tryz.underlying4 Tryz.underlying22 Tryz.underlying5 cells_b Tryz.underlying23 Tryz.underlying3 (by kernel_rfl) Tryz.underlying24 Tryz.underlying9 (by kernel_rfl) (hval 2 28 v2 rfl rfl) h2
  refine (fnExactAgree_walk v0 xs0 v1 k1 v2 k2 len0 wf0 sm1 tx1 kb1 kw1 sm2 tx2 kb2 kw2 W row0 row1 row2 (table hL)).mono fun e W' ⟨he, hb⟩ => ?_
  subst he
  exact ⟨_, rfl, law_post laidOut (by kernel_rfl) (by kernel_rfl) (by kernel_rfl) Tryz.underlying4 hW' rfl hb⟩

theorem laid_met (os : Os) : laidMet Tryz.prog Rows.fnExactAgreeRow.laid (({ World.holding Tryz.prog os ⟨#[], #[], []⟩ with heap := (World.holding Tryz.prog os ⟨#[], #[], []⟩).heap.modify 0 fun | .cells _ t frozen => .cells #[.int .i64 1, .int .i64 2, .int .i64 4, .int .i64 8] t frozen | o => o } : World).forCall (fun _ _ => 0) ⟨#[], #[.slice none 0 0, .agg #[.int .i64 0, .int .i64 0, .slice none 0 0, .slice none 0 0, .slice none 0 0, .int .i64 0, .int .i64 0, .int .i64 0, .int .i64 0, .int .i64 0, .int .i64 0, .int .i64 0, .int .i64 0, .int .i64 0, .bool false, .slice none 0 0, .slice none 0 0, .slice none 0 0], .agg #[.int .i64 0, .int .i64 0, .slice none 0 0, .slice none 0 0, .slice none 0 0, .int .i64 0, .int .i64 0, .int .i64 0, .int .i64 0, .int .i64 0, .int .i64 0, .int .i64 0, .int .i64 0, .int .i64 0, .bool false, .slice none 0 0, .slice none 0 0, .slice none 0 0]], []⟩).memory :=
  laidMet_of_run' 8 (by kernel_rfl) (by kernel_rfl)
theorem reads (os : Os) {H : Type} (enc : TypeId × Value → H) : ∃ places, DataW.whole enc Tryz.prog (({ World.holding Tryz.prog os ⟨#[], #[], []⟩ with heap := (World.holding Tryz.prog os ⟨#[], #[], []⟩).heap.modify 0 fun | .cells _ t frozen => .cells #[.int .i64 1, .int .i64 2, .int .i64 4, .int .i64 8] t frozen | o => o } : World).forCall (fun _ _ => 0) ⟨#[], #[.slice none 0 0, .agg #[.int .i64 0, .int .i64 0, .slice none 0 0, .slice none 0 0, .slice none 0 0, .int .i64 0, .int .i64 0, .int .i64 0, .int .i64 0, .int .i64 0, .int .i64 0, .int .i64 0, .int .i64 0, .int .i64 0, .bool false, .slice none 0 0, .slice none 0 0, .slice none 0 0], .agg #[.int .i64 0, .int .i64 0, .slice none 0 0, .slice none 0 0, .slice none 0 0, .int .i64 0, .int .i64 0, .int .i64 0, .int .i64 0, .int .i64 0, .int .i64 0, .int .i64 0, .int .i64 0, .int .i64 0, .bool false, .slice none 0 0, .slice none 0 0, .slice none 0 0]], []⟩).memory Tryz.f3.params.toList Rows.fnExactAgreeSpec.vars false #[(.slice none 0 0 : Value), .agg #[.int .i64 0, .int .i64 0, .slice none 0 0, .slice none 0 0, .slice none 0 0, .int .i64 0, .int .i64 0, .int .i64 0, .int .i64 0, .int .i64 0, .int .i64 0, .int .i64 0, .int .i64 0, .int .i64 0, .bool false, .slice none 0 0, .slice none 0 0, .slice none 0 0], .agg #[.int .i64 0, .int .i64 0, .slice none 0 0, .slice none 0 0, .slice none 0 0, .int .i64 0, .int .i64 0, .int .i64 0, .int .i64 0, .int .i64 0, .int .i64 0, .int .i64 0, .int .i64 0, .int .i64 0, .bool false, .slice none 0 0, .slice none 0 0, .slice none 0 0]].toList 8 = some ([.nil, .agg [.lit (.int .i64 0), .lit (.int .i64 0), .nil, .nil, .nil, .agg [.lit (.int .i64 0), .lit (.int .i64 0), .lit (.int .i64 0), .lit (.int .i64 0), .lit (.int .i64 0), .lit (.int .i64 0), .lit (.int .i64 0), .lit (.int .i64 0), .lit (.int .i64 0), .lit (.bool false), .nil, .nil, .nil]], .agg [.lit (.int .i64 0), .lit (.int .i64 0), .nil, .nil, .nil, .agg [.lit (.int .i64 0), .lit (.int .i64 0), .lit (.int .i64 0), .lit (.int .i64 0), .lit (.int .i64 0), .lit (.int .i64 0), .lit (.int .i64 0), .lit (.int .i64 0), .lit (.int .i64 0), .lit (.bool false), .nil, .nil, .nil]]], [.agg [.lit (.int .i64 1), .lit (.int .i64 2), .lit (.int .i64 4), .lit (.int .i64 8)]], places) :=
  ⟨[.cell 0 0, .cell 0 1, .cell 0 2, .cell 0 3], by kernel_rfl⟩

set_option maxRecDepth 100000 in
theorem lifted (os : Os) (started : os.Started) (H : Type) (enc : TypeId × Value → H) (F : Stop.Interp) :
    ReturnsInHanded {} Tryz.checked os 3 .any ((OpenSpec.ofChange Rows.fnExactAgreeSpec).preRow enc Tryz.prog Tryz.f3 Rows.fnExactAgreeRow.domain false Rows.fnExactAgreeRow.laid) (((OpenSpec.ofChange Rows.fnExactAgreeSpec).at F).post enc Tryz.prog Tryz.f3 false true false false) := by
  obtain ⟨places, hx⟩ := reads os enc
  refine returnsInHanded_of_row (C := Tryz.checked) (s := OpenSpec.ofChange Rows.fnExactAgreeSpec) own started (by kernel_rfl) Tryz.func3
    (witness_row_at (enc := enc) (C := Tryz.checked) false ({ World.holding Tryz.prog os ⟨#[], #[], []⟩ with heap := (World.holding Tryz.prog os ⟨#[], #[], []⟩).heap.modify 0 fun | .cells _ t frozen => .cells #[.int .i64 1, .int .i64 2, .int .i64 4, .int .i64 8] t frozen | o => o } : World) #[.slice none 0 0, .agg #[.int .i64 0, .int .i64 0, .slice none 0 0, .slice none 0 0, .slice none 0 0, .int .i64 0, .int .i64 0, .int .i64 0, .int .i64 0, .int .i64 0, .int .i64 0, .int .i64 0, .int .i64 0, .int .i64 0, .bool false, .slice none 0 0, .slice none 0 0, .slice none 0 0], .agg #[.int .i64 0, .int .i64 0, .slice none 0 0, .slice none 0 0, .slice none 0 0, .int .i64 0, .int .i64 0, .int .i64 0, .int .i64 0, .int .i64 0, .int .i64 0, .int .i64 0, .int .i64 0, .int .i64 0, .bool false, .slice none 0 0, .slice none 0 0, .slice none 0 0]] rfl (by kernel_rfl) (by kernel_rfl) (by kernel_rfl)
      (OpenSpec.preRow_of_cond 8 hx (by kernel_rfl) (fun k hk => by cases hk) (by kernel_rfl) (laid_met os))) ?_
  intro W base args ds gs before hval hW _ _ _ hL _ _
  exact contract H enc W base args ds gs before hval hW hL

theorem said : Rows.FnExactAgreeSaid :=
  OpenClaim.holds_of_cond 3 Tryz.f3 rfl rfl rfl rfl rfl rfl rfl ⟨rfl, rfl, rfl, rfl, rfl⟩ rfl rfl rfl rfl rfl (by kernel_rfl) Tryz.func3 (by kernel_rfl)
    (of_decide_eq_true (by kernel_rfl)) (by unfold Func.isWrapper; first | (rw [if_pos (by decide +kernel)]; kernel_rfl) | (rw [if_neg (by decide +kernel)]; exact ⟨rfl, rfl⟩))
    (fun os started H enc _ F => by rw [OpenClaim.pre_eq_preRow]; exact lifted os started H enc F)

theorem plain (f : FuncId) (fn : Func) (hf : Tryz.pinned.checked.prog.funcNamed "loop.example/g00012/laws.FnExactAgree" = some f) (hfn : Tryz.pinned.checked.prog.funcs[f]? = some fn) :
    false = Tryz.pinned.checked.prog.looks [] ∧ ∀ (j : Nat) t, fn.params[j]? = some t → Tryz.pinned.checked.prog.wantsStandIn t = false := by
  obtain rfl : f = 3 := Option.some.inj ((show Tryz.prog.funcNamed "loop.example/g00012/laws.FnExactAgree" = some 3 by kernel_rfl).symm.trans hf) |>.symm
  obtain rfl : fn = Tryz.f3 := (Option.some.inj (Tryz.func3.symm.trans hfn)).symm
  refine ⟨by kernel_rfl, fun j t ht => ?_⟩
  rw [Tryz.params3] at ht
  have hm : t ∈ [22, 28, 28] := by simpa using Array.mem_of_getElem? ht
  have hall : ([22, 28, 28].all fun u => !Tryz.prog.wantsStandIn u) = true := by kernel_rfl
  exact (show Tryz.prog.wantsStandIn t = false by simpa using List.all_eq_true.1 hall t hm)

end Go.Proofs.YteggfkekgdlecaaGreatDoor.fnExactAgree

namespace Go.Proofs.YteggfkekgdlecaaGreatDoor
theorem fnExactAgree_holds : Rows.FnExactAgreeCardSaid :=
  Claim7.holds_tied_plain_at .later [] _ _ _ _ fnExactAgree.said (fun _ h => by cases h) (by kernel_rfl) (fun _ h => by cases h) fnExactAgree_row_tie rfl ⟨rfl, rfl⟩ (by kernel_rfl) rfl fnExactAgree.plain (by kernel_rfl)
#print axioms fnExactAgree_holds
end Go.Proofs.YteggfkekgdlecaaGreatDoor
