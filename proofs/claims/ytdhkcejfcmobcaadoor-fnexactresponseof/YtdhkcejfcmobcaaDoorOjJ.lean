import Derived.Test.YtdhkcejfcmobcaaDoorLiftB
import Derived.Test.YtdhkcejfcmobcaaDoorTbZ
import Derived.Lib.SmallJoins
import Derived.ChangeMaps5
import Derived.Test.YtdhkcejfcmobcaaDoorCards
import Derived.Test.YtdhkcejfcmobcaaDoorTie
import Derived.Test.YtdhkcejfcmobcaaDoorRyE
import Derived.Lib.LaidTab
namespace Go.Proofs.YtdhkcejfcmobcaaDoor
open Go.ChangeShapes Go.WideShapes Go.ChangeAt Go.RowKit Go.Joins Go.Deep
set_option linter.unusedVariables false

theorem list_of_flds {α : Type} {d : α} {Q : Nat → α → Prop} (n : Nat) (h : ∀ i, i < n → ∃ p, Q i p) : ∃ L : List α, L.length = n ∧ ∀ i, i < n → Q i (L.getD i d) := by
  induction n with
  | zero => exact ⟨[], rfl, fun i hi => by omega⟩
  | succ n ih =>
    obtain ⟨L, hl, hL⟩ := ih (fun i hi => h i (by omega))
    obtain ⟨xs, hx⟩ := h n (by omega)
    refine ⟨L ++ [xs], by simp [hl], fun i hi => ?_⟩
    by_cases hin : i < n
    · have e : (L ++ [xs]).getD i d = L.getD i d := by simp [List.getD, List.getElem?_append_left (show i < L.length by omega)]
      rw [e]; exact hL i hin
    · obtain rfl : i = n := by omega
      have e : (L ++ [xs]).getD i d = xs := by simp [List.getD, hl]
      rw [e]; exact hx
/-- A FIELD THAT IS A LIST OF PAIRS OF TEXTS. -/
theorem open_flds {H : Type} {enc : TypeId × Value → H} {P : Program} {W : World} {fuel : Nat} {t te ti : TypeId} {f0 f1 : Field} {v : Value} {y : DataW H × List MemPlace}
    (ht : P.underlying t = some (.slice te)) (hs : P.underlying te = some (.struct #[f0, f1])) (hone : oneCellFields P #[f0, f1] = true) (hC : P.cellsOf te = 2) (hf : f0.type = ti ∧ f1.type = ti) (hi : P.underlying ti = some .string)
    (hx : DataW.trod enc P W 0 (fun _ => true) true fuel t [v] = some y) : ∃ L : List SField, GRow 2 W v (SField.L L) ∧ L.length ≤ maxLen ∧ fin L := by
  obtain ⟨d, p⟩ := y
  rcases DataW.trod_slice ht hx with ⟨h0, _⟩ | ⟨a, len, cap, elems, rest, n, _, hcv, _, _, hl, hm, hlen, hel, _, _⟩
  · have e : v = .slice none 0 0 := by simpa using h0
    rw [e]
    exact ⟨[], Or.inl ⟨rfl, none, 0, rfl⟩, by simp, fun j hj => by simp at hj⟩
  · have e : v = .slice (some a) len cap := by simpa using hcv
    rw [e]
    have each : ∀ i, i < len → ∃ q : SField, (∀ f, f < 2 → W.cell? ((a.add (i * 2)).add f) = (q.c)[f]?) ∧ q.f0.size ≤ maxLen ∧ q.f1.size ≤ maxLen := by
      intro i hi'
      have h1 := hel i hi'
      rw [hC] at h1
      obtain ⟨y, hy⟩ : ∃ y, elems[i]? = some y := ⟨elems[i]'(by omega), by simp [hlen, hi']⟩
      rw [hy, Option.bind_eq_some_iff] at h1
      obtain ⟨cs', hcc, hy'⟩ := h1
      obtain ⟨_, hl2, hcell⟩ := World.cells?_some hcc
      obtain ⟨xs, m, _, _, _, hlx, hg⟩ := DataW.trod_struct hs hy'
      match cs', hl2, hcell, xs, hlx, hg with
      | [c0, c1], _, hcell, [y0, y1], _, hg =>
        obtain ⟨o0, k0⟩ := hone_of hone 0 f0 rfl
        obtain ⟨o1, k1⟩ := hone_of hone 1 f1 rfl
        have e0 : DataW.trod enc P W 0 (fun _ => true) true m f0.type [c0] = some y0 := by simpa [o0, k0] using hg 0 f0 rfl
        have e1 : DataW.trod enc P W 0 (fun _ => true) true m f1.type [c1] = some y1 := by simpa [o1, k1] using hg 1 f1 rfl
        rw [hf.1] at e0
        rw [hf.2] at e1
        obtain ⟨s0, q0, _, z0⟩ := DataW.trod_string hi e0
        obtain ⟨s1, q1, _, z1⟩ := DataW.trod_string hi e1
        obtain rfl : c0 = .string s0 := by simpa using q0
        obtain rfl : c1 = .string s1 := by simpa using q1
        refine ⟨⟨s0, s1⟩, fun f hf5 => ?_, z0, z1⟩
        have q := hcell f (by simpa using hf5)
        exact q
    obtain ⟨L, hR, hq⟩ := list_of_flds (d := (default : SField)) len each
    refine ⟨L, ?_, by omega, fun j hj => ?_⟩
    · by_cases h0 : len = 0
      · subst h0
        have hL : L = [] := List.eq_nil_of_length_eq_zero hR
        subst hL
        exact Or.inl ⟨rfl, _, _, rfl⟩
      · have u0 := (hq 0 (by omega)).1 0 (by omega)
        obtain ⟨b, off, spot⟩ := a
        have u1 : W.cell? ((Addr.add ⟨b, off, spot⟩ (0 * 2)).add 0) = some (.string (L.getD 0 default).f0) := u0
        have hspot : spot = none := by simpa [Addr.add] using World.cell?_spot u1
        subst hspot
        rw [add_plain, add_plain] at u1
        refine Or.inr ⟨b, off, cap, by rw [List.length_map, hR], cell_ltL u1, fun j hj f hf5 => ?_⟩
        rw [List.length_map] at hj
        have w0 := (hq j (by omega)).1 f hf5
        rw [add_plain, add_plain, Nat.add_assoc] at w0
        rw [SField.at L j hj]
        exact w0
    · have := (hq j (by omega)).2
      unfold maxLen at this
      exact ⟨by omega, by omega⟩
/-- AN ARGUMENT THAT IS A TABLE. -/
theorem open_tab {H : Type} {enc : TypeId × Value → H} {P : Program} {W : World} {r : Reach} {base : Nat} {t ti tl te ts : TypeId} {g0 g1 g2 g3 f0 f1 : Field} {v : Value} {d : DataW H} {p : List MemPlace}
    (hs : P.underlying t = some (.struct #[g0, g1, g2, g3])) (hone4 : oneCellFields P #[g0, g1, g2, g3] = true) (hC4 : P.cellsOf t = 4) (hg : g0.type = ti ∧ g1.type = ti ∧ g2.type = ti ∧ g3.type = tl) (hi : P.underlying ti = some (.int .i64))
    (ht : P.underlying tl = some (.slice te)) (hse : P.underlying te = some (.struct #[f0, f1])) (hone : oneCellFields P #[f0, f1] = true) (hC : P.cellsOf te = 2) (hf : f0.type = ts ∧ f1.type = ts) (hst : P.underlying ts = some .string)
    (hval : Value.okWide P W r base t v) (h : DataW.Trod enc P W 0 (fun _ => true) true t v d p) :
    ∃ (k : TB) (s : Value), v = tV k s ∧ GRow 2 W s (SField.L k.es) ∧ k.es.length ≤ maxLen ∧ fin k.es := by
  obtain ⟨v0, v1, v2, v3, y0, y1, y2, y3, n, rfl, _, _, h0, h1, h2, h3⟩ := open_agg4 hs hone4 hC4 hval h
  rw [hg.1] at h0
  rw [hg.2.1] at h1
  rw [hg.2.2.1] at h2
  rw [hg.2.2.2] at h3
  obtain ⟨x0, rfl, _⟩ := open_num hi h0
  obtain ⟨x1, rfl, _⟩ := open_num hi h1
  obtain ⟨x2, rfl, _⟩ := open_num hi h2
  obtain ⟨L, hr, hl, hfn⟩ := open_flds ht hse hone hC hf hst h3
  exact ⟨⟨x0, x1, x2, L⟩, v3, rfl, hr, hl, hfn⟩
end Go.Proofs.YtdhkcejfcmobcaaDoor

namespace Go.Proofs.YtdhkcejfcmobcaaDoor
open Go.ChangeShapes Go.WideShapes Go.ChangeAt Go.RowKit Go.Joins Go.Deep
set_option linter.unusedVariables false

/-- AN ARGUMENT THAT IS A LIST OF FIELDS. -/
theorem open_fields {H : Type} {enc : TypeId × Value → H} {P : Program} {W : World} {r : Reach} {base : Nat} {t te ts : TypeId} {f0 f1 : Field} {v : Value} {d : DataW H} {p : List MemPlace}
    (ht : P.underlying t = some (.slice te)) (hse : P.underlying te = some (.struct #[f0, f1])) (hone : oneCellFields P #[f0, f1] = true) (hC : P.cellsOf te = 2) (hf : f0.type = ts ∧ f1.type = ts) (hst : P.underlying ts = some .string)
    (hval : Value.okWide P W r base t v) (h : DataW.Trod enc P W 0 (fun _ => true) true t v d p) :
    ∃ L : List SField, GRow 2 W v (SField.L L) ∧ L.length ≤ maxLen ∧ fin L := by
  obtain ⟨a0, len0, cap0, rfl⟩ := okWide_slice ht hval
  obtain ⟨fuel, hx0⟩ := h
  have hx : DataW.trod enc P W 0 (fun _ => true) true fuel t [.slice a0 len0 cap0] = some (d, p) := by simpa [Value.cells] using hx0
  exact open_flds ht hse hone hC hf hst hx
end Go.Proofs.YtdhkcejfcmobcaaDoor

namespace Go.Proofs.YtdhkcejfcmobcaaDoor.fnExactResponseOf
open Go.ChangeShapes Go.WideShapes Go.ChangeAt Go.RowKit
set_option linter.unusedVariables false

theorem own : ownKnob Tryd.prog.godebug = none := by kernel_rfl
theorem laidOut : laidOutB Tryd.prog = true := by kernel_rfl
set_option maxRecDepth 20000 in
theorem contract (H : Type) (enc : TypeId × Value → H) (W : World) (base : Nat) (args : Array Value) (ds gs : List (DataW H)) (before : List MemPlace)
    (hval : ∀ (j : Nat) t v, Tryd.f4.params[j]? = some t → args[j]? = some v → Value.okWide Tryd.prog W .any base t v)
    (hW : DataW.Whole enc Tryd.prog Tryd.f4.params.toList Rows.fnExactResponseOfSpec.vars false W args.toList ds gs before) :
    Calls Tryd.prog 4 args W fun e W' => ∃ v, e = .returned v ∧ Rows.fnExactResponseOfSpec.post enc Tryd.prog Tryd.f4 false true false false W args v W' := by
  have hW' := hW
  obtain ⟨p, q, hA0, hV, rfl, hfz, hnd⟩ := hW
  have hA : DataW.TrodAll enc Tryd.prog W 0 (fun _ => true) true Tryd.f4.params.toList args.toList ds p := hA0
  rw [Tryd.params4] at hA hval
  obtain ⟨v0, vs0, d0, ds0, p0, q0, hargs, rfl, rfl, h0, r0⟩ := trodAll_cons hA
  obtain ⟨rfl, rfl, rfl⟩ := trodAll_nil r0
  obtain rfl : args = #[v0] := by cases args; simp_all
  obtain ⟨rfl, rfl⟩ := trodVars_none hV
  obtain ⟨k0, row0, sm0, fn0⟩ := open_fields Tryd.underlying22 Tryd.underlying50 (by kernel_rfl) (by kernel_rfl) ⟨rfl, rfl⟩ Tryd.underlying9 (hval 0 22 v0 rfl rfl) h0
  refine (fnExactResponseOf_walk v0 k0 sm0 fn0 W row0).mono fun e W' ⟨he, hb⟩ => ?_
  subst he
  exact ⟨_, rfl, law_post laidOut (by kernel_rfl) (by kernel_rfl) (by kernel_rfl) Tryd.underlying4 hW' rfl hb⟩

/-- So many blocks has the settled world. -/
noncomputable def low : Nat := (World.holding Tryd.prog default ⟨#[], #[], []⟩).heap.size
/-- The settled world with the listed variables as their initialisers lay them. -/
noncomputable def lw (os : Os) : World :=
  let w0 := World.holding Tryd.prog os ⟨#[.cells #[.string ⟨#[118, 97, 108, 117, 101, 32, 111, 117, 116, 32, 111, 102, 32, 114, 97, 110, 103, 101]⟩] 108, .cells #[.string ⟨#[105, 110, 118, 97, 108, 105, 100, 32, 115, 121, 110, 116, 97, 120]⟩] 108], #[], []⟩
  { w0 with heap := (((((w0.heap).modify 3 fun | .cells _ t frozen => .cells #[.int .u8 0, .int .u8 1, .int .u8 28, .int .u8 2, .int .u8 29, .int .u8 14, .int .u8 24, .int .u8 3, .int .u8 30, .int .u8 22, .int .u8 20, .int .u8 15, .int .u8 25, .int .u8 17, .int .u8 4, .int .u8 8, .int .u8 31, .int .u8 27, .int .u8 13, .int .u8 23, .int .u8 21, .int .u8 19, .int .u8 16, .int .u8 7, .int .u8 26, .int .u8 12, .int .u8 18, .int .u8 6, .int .u8 11, .int .u8 5, .int .u8 10, .int .u8 9] t frozen | o => o).modify 4 fun | .cells _ t frozen => .cells #[.int .u8 0, .int .u8 1, .int .u8 56, .int .u8 2, .int .u8 57, .int .u8 49, .int .u8 28, .int .u8 3, .int .u8 61, .int .u8 58, .int .u8 42, .int .u8 50, .int .u8 38, .int .u8 29, .int .u8 17, .int .u8 4, .int .u8 62, .int .u8 47, .int .u8 59, .int .u8 36, .int .u8 45, .int .u8 43, .int .u8 51, .int .u8 22, .int .u8 53, .int .u8 39, .int .u8 33, .int .u8 30, .int .u8 24, .int .u8 18, .int .u8 12, .int .u8 5, .int .u8 63, .int .u8 55, .int .u8 48, .int .u8 27, .int .u8 60, .int .u8 41, .int .u8 37, .int .u8 16, .int .u8 46, .int .u8 35, .int .u8 44, .int .u8 21, .int .u8 52, .int .u8 32, .int .u8 23, .int .u8 11, .int .u8 54, .int .u8 26, .int .u8 40, .int .u8 15, .int .u8 34, .int .u8 20, .int .u8 31, .int .u8 10, .int .u8 25, .int .u8 14, .int .u8 19, .int .u8 9, .int .u8 13, .int .u8 8, .int .u8 7, .int .u8 6] t frozen | o => o).modify 0 fun | .cells _ t frozen => .cells #[.int .u64 1, .int .u64 10, .int .u64 100, .int .u64 1000, .int .u64 10000, .int .u64 100000, .int .u64 1000000, .int .u64 10000000, .int .u64 100000000, .int .u64 1000000000, .int .u64 10000000000, .int .u64 100000000000, .int .u64 1000000000000, .int .u64 10000000000000, .int .u64 100000000000000, .int .u64 1000000000000000, .int .u64 10000000000000000, .int .u64 100000000000000000, .int .u64 1000000000000000000, .int .u64 10000000000000000000] t frozen | o => o).modify 2 fun | .cells _ t frozen => .cells #[.iface 106 (.pointer (some ⟨low + 0, 0, none⟩))] t frozen | o => o).modify 1 fun | .cells _ t frozen => .cells #[.iface 106 (.pointer (some ⟨low + 1, 0, none⟩))] t frozen | o => o }
theorem laid_met (os : Os) : laidMet Tryd.prog Rows.fnExactResponseOfRow.laid ((lw os).forCall (fun _ _ => 0) ⟨#[], #[.slice none 0 0], []⟩).memory :=
  laidMet_of_run' 8 (by kernel_rfl) (by kernel_rfl)
theorem reads (os : Os) {H : Type} (enc : TypeId × Value → H) : ∃ places, DataW.whole enc Tryd.prog ((lw os).forCall (fun _ _ => 0) ⟨#[], #[.slice none 0 0], []⟩).memory Tryd.f4.params.toList Rows.fnExactResponseOfSpec.vars false #[(.slice none 0 0 : Value)].toList 8 = some ([.nil], [], places) :=
  ⟨[], by kernel_rfl⟩

set_option maxRecDepth 100000 in
theorem lifted (os : Os) (started : os.Started) (H : Type) (enc : TypeId × Value → H) (F : Stop.Interp) :
    ReturnsInHanded {} Tryd.checked os 4 .any ((OpenSpec.ofChange Rows.fnExactResponseOfSpec).preRow enc Tryd.prog Tryd.f4 Rows.fnExactResponseOfRow.domain false Rows.fnExactResponseOfRow.laid) (((OpenSpec.ofChange Rows.fnExactResponseOfSpec).at F).post enc Tryd.prog Tryd.f4 false true false false) := by
  obtain ⟨places, hx⟩ := reads os enc
  refine returnsInHanded_of_row (C := Tryd.checked) (s := OpenSpec.ofChange Rows.fnExactResponseOfSpec) own started (by kernel_rfl) Tryd.func4
    (witness_row_at (enc := enc) (C := Tryd.checked) false (lw os) #[.slice none 0 0] rfl (by kernel_rfl) (by kernel_rfl) (by kernel_rfl)
      (OpenSpec.preRow_of_cond 8 hx (by kernel_rfl) (fun k hk => by cases hk) (by kernel_rfl) (laid_met os))) ?_
  intro W base args ds gs before hval hW _ _ _ hL _ _
  exact contract H enc W base args ds gs before hval hW

theorem said : Rows.FnExactResponseOfSaid :=
  OpenClaim.holds_of_cond 4 Tryd.f4 rfl rfl rfl rfl rfl rfl rfl ⟨rfl, rfl, rfl, rfl, rfl⟩ rfl rfl rfl rfl rfl (by kernel_rfl) Tryd.func4 (by kernel_rfl)
    (of_decide_eq_true (by kernel_rfl)) (by unfold Func.isWrapper; first | (rw [if_pos (by decide +kernel)]; kernel_rfl) | (rw [if_neg (by decide +kernel)]; exact ⟨rfl, rfl⟩))
    (fun os started H enc _ F => by rw [OpenClaim.pre_eq_preRow]; exact lifted os started H enc F)

theorem plain (f : FuncId) (fn : Func) (hf : Tryd.pinned.checked.prog.funcNamed "loop.example/g00012/laws.FnExactResponseOf" = some f) (hfn : Tryd.pinned.checked.prog.funcs[f]? = some fn) :
    true = Tryd.pinned.checked.prog.looks [] ∧ ∀ (j : Nat) t, fn.params[j]? = some t → Tryd.pinned.checked.prog.wantsStandIn t = false := by
  obtain rfl : f = 4 := Option.some.inj ((show Tryd.prog.funcNamed "loop.example/g00012/laws.FnExactResponseOf" = some 4 by kernel_rfl).symm.trans hf) |>.symm
  obtain rfl : fn = Tryd.f4 := (Option.some.inj (Tryd.func4.symm.trans hfn)).symm
  refine ⟨by kernel_rfl, fun j t ht => ?_⟩
  rw [Tryd.params4] at ht
  have hm : t ∈ [22] := by simpa using Array.mem_of_getElem? ht
  have hall : ([22].all fun u => !Tryd.prog.wantsStandIn u) = true := by kernel_rfl
  exact (show Tryd.prog.wantsStandIn t = false by simpa using List.all_eq_true.1 hall t hm)

end Go.Proofs.YtdhkcejfcmobcaaDoor.fnExactResponseOf

namespace Go.Proofs.YtdhkcejfcmobcaaDoor
theorem fnExactResponseOf_holds : Rows.FnExactResponseOfCardSaid :=
  Claim7.holds_tied_plain_at .later [] _ _ _ _ fnExactResponseOf.said (fun _ h => by cases h) (by kernel_rfl) (fun _ h => by cases h) fnExactResponseOf_row_tie rfl ⟨rfl, rfl⟩ (by kernel_rfl) rfl fnExactResponseOf.plain (by kernel_rfl)
#print axioms fnExactResponseOf_holds
end Go.Proofs.YtdhkcejfcmobcaaDoor
