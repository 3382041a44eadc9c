import Derived.Test.YtocinjcbkolnhaaTcA
import Derived.Deep.RegionLaw
import Derived.Deep.RegionHeld3
import Derived.Deep.CutRange
namespace Go.Proofs.Ytocinjcbkolnhaa
open Go.RowKit
set_option linter.unusedVariables false


theorem infoArF : (Try.prog.info? 35).map (fun i => (i.zero, i.size, i.bytes)) = some (some (.agg #[.string ⟨#[]⟩, .string ⟨#[]⟩]), 2, 32) := by kernel_rfl
theorem infoAr2F : (Try.prog.info? 35).map (·.size) = some 2 := by kernel_rfl
theorem infoArZF : (Try.prog.info? 35).map (·.zero) = some (some (.agg #[.string ⟨#[]⟩, .string ⟨#[]⟩])) := by kernel_rfl
theorem made_arF (n : Nat) : madeCells #[Value.string ⟨#[]⟩, Value.string ⟨#[]⟩] (n * 2) = (rcF (List.replicate n default)).toArray := by
  have := zeros2F n
  apply Array.toList_inj.1
  rw [List.toList_toArray, ← this]
  rfl
theorem wpList_makeRF {w : World} {ops : Array Oper} {rest : List Oper} {o : Oper} {a : Act} {Q : Exit → Act → World → Prop} (hgd : o.guard = none) (l c : Operand) (ho : o.op = .makeSlice 29 l c)
    (n : Nat) (N : Int) (hl : a.eval l = .int .i64 N) (hc : a.eval c = .int .i64 N) (eN : N = (n : Int)) (hm : n ≤ 1099511627776)
    (h : wpList Try.prog ops Q rest (a.put o.dst (.slice (some ⟨w.heap.size, 0, none⟩) n n)) (w.alloc (.cells (rcF (List.replicate n default)).toArray 35))) :
    wpList Try.prog ops Q (o :: rest) a w := by
  cases hi : Try.prog.info? 35 with
  | none => have := infoArF; rw [hi] at this; cases this
  | some i0 =>
    have h3 := infoArF
    rw [hi] at h3
    simp only [Option.map_some, Option.some.injEq, Prod.mk.injEq] at h3
    obtain ⟨hz0, hz1, hz2⟩ := h3
    subst eN
    have hr := run_make (P := Try.prog) w 29 35 i0 (.agg #[.string ⟨#[]⟩, .string ⟨#[]⟩]) Try.underlying29 hi hz0 .i64 .i64 (n : Int) (n : Int) (by omega) (by omega) (by rw [hz2]; omega) (by omega)
    simp only [Int.toNat_natCast, hz1] at hr
    have hcl : (Value.agg #[.string ⟨#[]⟩, .string ⟨#[]⟩]).cells = #[.string ⟨#[]⟩, .string ⟨#[]⟩] := rfl
    rw [hcl, made_arF] at hr
    refine wpList_plain hgd fun K hK => ?_
    unfold Oper.wp
    simp [execOp, ho, hl, hc, hr, Result.andThen]
    exact hK _ _ h
theorem wpList_copyRF {w : World} {ops : Array Oper} {rest : List Oper} {o : Oper} {a : Act} {Q : Exit → Act → World → Prop} (hgd : o.guard = none) (d s : Operand)
    (ho : o.op = .call { callee := .builtin .copy, args := #[d, s], argTypes := #[29, 29] })
    (g c q r dLen dCap sLen sCap m : Nat) (O L : List SField) (dp sp : Option Addr) (hd : a.eval d = .slice dp dLen dCap) (hs : a.eval s = .slice sp sLen sCap)
    (hg : rgBF w g O) (hc : rgBF w c L) (hm : m = Nat.min sLen dLen) (hr : r + m ≤ L.length) (hq : q + m ≤ O.length) (ha : 0 < m → dp = some ⟨g, q * 2, none⟩ ∧ sp = some ⟨c, r * 2, none⟩)
    (h : ∀ w', rgBF w' g (cpLF O L q r m) → Only (some g) w w' → wpList Try.prog ops Q rest (a.put o.dst (goInt m)) w') : wpList Try.prog ops Q (o :: rest) a w := by
  refine wpList_plain hgd fun K hK => ?_
  obtain ⟨w', hrun, h1, h2⟩ := run_copyRF (P := Try.prog) w 29 29 o.type 35 g c q r dLen dCap sLen sCap m O L dp sp Try.underlying29 infoAr2F hg hc hm hr hq ha
  unfold Oper.wp
  simp [execOp, ho, resolve, invoke, builtin, hd, hs, hrun, Result.andThen]
  exact hK _ _ (h w' h1 h2)
theorem step_copyRF {ops : Array Oper} {o : Oper} {a : Act} {w : World} {K : Act → World → Prop} {Q : Exit → Act → World → Prop} {E : Prop} (hgd : o.guard = none) (d s : Operand)
    (ho : o.op = .call { callee := .builtin .copy, args := #[d, s], argTypes := #[29, 29] })
    (g c q r dLen dCap sLen sCap m : Nat) (O L : List SField) (dp sp : Option Addr) (hd : a.eval d = .slice dp dLen dCap) (hs : a.eval s = .slice sp sLen sCap)
    (hg : rgBF w g O) (hc : rgBF w c L) (hm : m = Nat.min sLen dLen) (hr : r + m ≤ L.length) (hq : q + m ≤ O.length) (ha : 0 < m → dp = some ⟨g, q * 2, none⟩ ∧ sp = some ⟨c, r * 2, none⟩)
    (h : ∀ w', rgBF w' g (cpLF O L q r m) → Only (some g) w w' → K (a.put o.dst (goInt m)) w') :
    if Region.wanted o (yielded ops a.tmps) = true then Oper.wp Try.prog o a w K Q else E := by
  have hw : Region.wanted o (yielded ops a.tmps) = true := by simp [Region.wanted, hgd]
  rw [if_pos hw]
  obtain ⟨w', hrun, h1, h2⟩ := run_copyRF (P := Try.prog) w 29 29 o.type 35 g c q r dLen dCap sLen sCap m O L dp sp Try.underlying29 infoAr2F hg hc hm hr hq ha
  unfold Oper.wp
  simp [execOp, ho, resolve, invoke, builtin, hd, hs, hrun, Result.andThen]
  exact h w' h1 h2
theorem wpList_clearRF {w : World} {ops : Array Oper} {rest : List Oper} {o : Oper} {a : Act} {Q : Exit → Act → World → Prop} (hgd : o.guard = none) (s : Operand)
    (ho : o.op = .call { callee := .builtin .clear, args := #[s], argTypes := #[29] })
    (c r m cap : Nat) (L : List SField) (sp : Option Addr) (hs : a.eval s = .slice sp m cap) (hc : rgBF w c L) (hr : r + m ≤ L.length) (ha : 0 < m → sp = some ⟨c, r * 2, none⟩)
    (h : ∀ w', rgBF w' c (clLF L r m) → Only (some c) w w' → wpList Try.prog ops Q rest (a.put o.dst (.tuple #[])) w') : wpList Try.prog ops Q (o :: rest) a w := by
  refine wpList_plain hgd fun K hK => ?_
  obtain ⟨w', hrun, h1, h2⟩ := run_clearRF (P := Try.prog) w 29 o.type 35 c r m cap L sp Try.underlying29 infoArZF hc hr ha
  unfold Oper.wp
  simp [execOp, ho, resolve, invoke, builtin, hs, hrun, Result.andThen]
  exact hK _ _ (h w' h1 h2)
end Go.Proofs.Ytocinjcbkolnhaa
