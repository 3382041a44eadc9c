import Derived.Test.YtgifbpongpbjaaaDoorStH
import Derived.Deep.RegionLaw
import Derived.Deep.RegionHeld3
import Derived.Deep.CutRange
namespace Go.Proofs.YtgifbpongpbjaaaDoor
open Go.RowKit
set_option linter.unusedVariables false

theorem infoAr : (Tryd.prog.info? 55).map (fun i => (i.zero, i.size, i.bytes)) = some (some (.agg #[.bool false, .int .u8 0]), 2, 2) := by kernel_rfl
theorem infoAr2 : (Tryd.prog.info? 55).map (·.size) = some 2 := by kernel_rfl
theorem infoArZ : (Tryd.prog.info? 55).map (·.zero) = some (some (.agg #[.bool false, .int .u8 0])) := by kernel_rfl
theorem made_ar (n : Nat) : madeCells #[Value.bool false, Value.int .u8 0] (n * 2) = (rc (List.replicate n (false, 0))).toArray := by
  have := zeros2 n
  apply Array.toList_inj.1
  rw [List.toList_toArray, ← this]
  rfl
theorem wpList_makeR {w : World} {ops : Array Oper} {rest : List Oper} {o : Oper} {a : Act} {Q : Exit → Act → World → Prop} (hgd : o.guard = none) (l c : Operand) (ho : o.op = .makeSlice 41 l c)
    (n : Nat) (N : Int) (hl : a.eval l = .int .i64 N) (hc : a.eval c = .int .i64 N) (eN : N = (n : Int)) (hm : n ≤ 1099511627776)
    (h : wpList Tryd.prog ops Q rest (a.put o.dst (.slice (some ⟨w.heap.size, 0, none⟩) n n)) (w.alloc (.cells (rc (List.replicate n (false, 0))).toArray 55))) :
    wpList Tryd.prog ops Q (o :: rest) a w := by
  cases hi : Tryd.prog.info? 55 with
  | none => have := infoAr; rw [hi] at this; cases this
  | some i0 =>
    have h3 := infoAr
    rw [hi] at h3
    simp only [Option.map_some, Option.some.injEq, Prod.mk.injEq] at h3
    obtain ⟨hz0, hz1, hz2⟩ := h3
    subst eN
    have hr := run_make (P := Tryd.prog) w 41 55 i0 (.agg #[.bool false, .int .u8 0]) Tryd.underlying41 hi hz0 .i64 .i64 (n : Int) (n : Int) (by omega) (by omega) (by rw [hz2]; omega) (by omega)
    simp only [Int.toNat_natCast, hz1] at hr
    have hcl : (Value.agg #[.bool false, .int .u8 0]).cells = #[.bool false, .int .u8 0] := rfl
    rw [hcl, made_ar] at hr
    refine wpList_plain hgd fun K hK => ?_
    unfold Oper.wp
    simp [execOp, ho, hl, hc, hr, Result.andThen]
    exact hK _ _ h
theorem wpList_copyR {w : World} {ops : Array Oper} {rest : List Oper} {o : Oper} {a : Act} {Q : Exit → Act → World → Prop} (hgd : o.guard = none) (d s : Operand)
    (ho : o.op = .call { callee := .builtin .copy, args := #[d, s], argTypes := #[41, 41] })
    (g c q r dLen dCap sLen sCap m : Nat) (O L : List (Bool × Int)) (dp sp : Option Addr) (hd : a.eval d = .slice dp dLen dCap) (hs : a.eval s = .slice sp sLen sCap)
    (hg : rgB w g O) (hc : rgB w c L) (hm : m = Nat.min sLen dLen) (hr : r + m ≤ L.length) (hq : q + m ≤ O.length) (ha : 0 < m → dp = some ⟨g, q * 2, none⟩ ∧ sp = some ⟨c, r * 2, none⟩)
    (h : ∀ w', rgB w' g (cpL O L q r m) → Only (some g) w w' → wpList Tryd.prog ops Q rest (a.put o.dst (goInt m)) w') : wpList Tryd.prog ops Q (o :: rest) a w := by
  refine wpList_plain hgd fun K hK => ?_
  obtain ⟨w', hrun, h1, h2⟩ := run_copyR (P := Tryd.prog) w 41 41 o.type 55 g c q r dLen dCap sLen sCap m O L dp sp Tryd.underlying41 infoAr2 hg hc hm hr hq ha
  unfold Oper.wp
  simp [execOp, ho, resolve, invoke, builtin, hd, hs, hrun, Result.andThen]
  exact hK _ _ (h w' h1 h2)
theorem step_copyR {ops : Array Oper} {o : Oper} {a : Act} {w : World} {K : Act → World → Prop} {Q : Exit → Act → World → Prop} {E : Prop} (hgd : o.guard = none) (d s : Operand)
    (ho : o.op = .call { callee := .builtin .copy, args := #[d, s], argTypes := #[41, 41] })
    (g c q r dLen dCap sLen sCap m : Nat) (O L : List (Bool × Int)) (dp sp : Option Addr) (hd : a.eval d = .slice dp dLen dCap) (hs : a.eval s = .slice sp sLen sCap)
    (hg : rgB w g O) (hc : rgB w c L) (hm : m = Nat.min sLen dLen) (hr : r + m ≤ L.length) (hq : q + m ≤ O.length) (ha : 0 < m → dp = some ⟨g, q * 2, none⟩ ∧ sp = some ⟨c, r * 2, none⟩)
    (h : ∀ w', rgB w' g (cpL O L q r m) → Only (some g) w w' → K (a.put o.dst (goInt m)) w') :
    if Region.wanted o (yielded ops a.tmps) = true then Oper.wp Tryd.prog o a w K Q else E := by
  have hw : Region.wanted o (yielded ops a.tmps) = true := by simp [Region.wanted, hgd]
  rw [if_pos hw]
  obtain ⟨w', hrun, h1, h2⟩ := run_copyR (P := Tryd.prog) w 41 41 o.type 55 g c q r dLen dCap sLen sCap m O L dp sp Tryd.underlying41 infoAr2 hg hc hm hr hq ha
  unfold Oper.wp
  simp [execOp, ho, resolve, invoke, builtin, hd, hs, hrun, Result.andThen]
  exact h w' h1 h2
theorem wpList_clearR {w : World} {ops : Array Oper} {rest : List Oper} {o : Oper} {a : Act} {Q : Exit → Act → World → Prop} (hgd : o.guard = none) (s : Operand)
    (ho : o.op = .call { callee := .builtin .clear, args := #[s], argTypes := #[41] })
    (c r m cap : Nat) (L : List (Bool × Int)) (sp : Option Addr) (hs : a.eval s = .slice sp m cap) (hc : rgB w c L) (hr : r + m ≤ L.length) (ha : 0 < m → sp = some ⟨c, r * 2, none⟩)
    (h : ∀ w', rgB w' c (clL L r m) → Only (some c) w w' → wpList Tryd.prog ops Q rest (a.put o.dst (.tuple #[])) w') : wpList Tryd.prog ops Q (o :: rest) a w := by
  refine wpList_plain hgd fun K hK => ?_
  obtain ⟨w', hrun, h1, h2⟩ := run_clearR (P := Tryd.prog) w 41 o.type 55 c r m cap L sp Tryd.underlying41 infoArZ hc hr ha
  unfold Oper.wp
  simp [execOp, ho, resolve, invoke, builtin, hs, hrun, Result.andThen]
  exact hK _ _ (h w' h1 h2)
end Go.Proofs.YtgifbpongpbjaaaDoor
