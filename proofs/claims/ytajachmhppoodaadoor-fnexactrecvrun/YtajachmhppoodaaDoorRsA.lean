import Derived.Test.YtajachmhppoodaaDoorRmC
import Derived.Laws.AppendOwnNone
import Derived.Maps.AppendAt
import Derived.Deep.RegionLaw
import Derived.Lib.MinMax
import Derived.BigRegion
namespace Go.Proofs.YtajachmhppoodaaDoor
open Go.RowKit
set_option linter.unusedVariables false

theorem infoBo : (Tryd.prog.info? 4).map (fun i => (i.zero, i.size, i.bytes)) = some (some (.bool false), 1, 1) := by kernel_rfl
theorem infoU8 : (Tryd.prog.info? 5).map (fun i => (i.zero, i.size, i.bytes)) = some (some (.int .u8 0), 1, 1) := by kernel_rfl
/-- 'append(own, x)' of elements of one cell. -/
theorem wpList_append_one {w : World} {ops : Array Oper} {rest : List Oper} {o : Oper} {a : Act} {Q : Exit → Act → World → Prop} (hgd : o.guard = none) (p q : Operand) (tS T : TypeId) (z : Value) (bs : Nat) (hzc : z.cells.size = 1) (hbs : bs ≤ 8)
    (ho : o.op = .call { callee := .builtin .append, args := #[p, q], argTypes := #[tS, tS] }) (ht : Tryd.prog.underlying tS = some (.slice T)) (hinfo : (Tryd.prog.info? T).map (fun i => (i.zero, i.size, i.bytes)) = some (some z, 1, bs))
    (base : Nat) (v : Value) (n : Nat) (ys : List Value) (hp : a.eval p = v) (hown : w.ownsRow base T 1 v n ys) (g : Nat) (x : Value) (hx1 : x.oneCell' = true) (hq : a.eval q = .slice (some ⟨g, 0, none⟩) 1 1) (hx : w.cell? ⟨g, 0, none⟩ = some x) (h63 : n + 1 ≤ 1099511627776) (hbase : base ≤ w.heap.size)
    (h : ∀ v' w', w'.ownsRow base T 1 v' (n + 1) (ys ++ [x]) → w.grownBy w' v.ownBlock → (v'.ownBlock = v.ownBlock ∨ v'.ownBlock = some w.heap.size) → wpList Tryd.prog ops Q rest (a.put o.dst v') w') :
    wpList Tryd.prog ops Q (o :: rest) a w := by
  obtain ⟨i0, hi, hz0, hz1, hz2⟩ := info_parts hinfo
  refine wpList_append_own_at w hgd p q tS ho base T i0 z 1 bs ht hi hz0 hz1 hz2 hzc (by decide) v n ys hp hown ⟨g, 0, none⟩ 1 1 [x] hq rfl ?_ ?_ (by unfold maxLen; omega) ?_ hbase ?_
  · intro j u hj
    match j, hj with
    | 0, hj => simp at hj; subst hj; rw [Go.WideShapes.add_plain]; exact hx
  · intro u hu; simp at hu; subst hu; exact hx1
  · have := Nat.mul_le_mul (show n + 1 ≤ 1099511627776 from h63) hbs; omega
  · intro v' w' ho' hg _ hat
    exact h v' w' ho' hg hat
/-- The model's part, its cells. -/
def mB (w : World) (g : Nat) (st win told read final en : Int) (sized : Bool) (vd vt : Value) : Prop :=
  w.heap[g]? = some (.cells #[.int .i64 st, .int .i64 win, .int .i64 told, .int .i64 read, .int .i64 final, .int .i64 en, .bool sized, vd, vt] 52 (0, 0))
/-- The rows of the places, and which blocks are the part's own. -/
structure MA (w : World) (D : Nat → Prop) (g base : Nat) (T : PL) (vd vt : Value) : Prop where
  od : w.ownsRow base 5 1 vd T.length (T.map fun x => .int .u8 x.2)
  ot : w.ownsRow base 4 1 vt T.length (T.map fun x => .bool x.1)
  dg : D g
  dd : ∀ k, vd.ownBlock = some k → D k
  dt : ∀ k, vt.ownBlock = some k → D k
  lt : ∀ k, D k → k < w.heap.size
  gb : base ≤ g
/-- The model's part stands for m. -/
def MRep (w : World) (D : Nat → Prop) (g base win : Nat) (m : MS) : Prop :=
  ∃ vd vt, mB w g m.st win m.told m.read m.final (m.T.length : Nat) m.sized vd vt ∧ MA w D g base m.T vd vt
def DU (D : Nat → Prop) (w wr : World) : Nat → Prop := fun k => D k ∨ (w.heap.size ≤ k ∧ k < wr.heap.size)
theorem row_bool {w : World} {base n : Nat} {vt : Value} {T : PL} (h : w.ownsRow base 4 1 vt n (T.map fun x => .bool x.1)) (hn : n = T.length) (p : Nat) (hp : p < n) : ∃ b cap, vt = .slice (some ⟨b, 0, none⟩) n cap ∧ w.cell? ⟨b, p, none⟩ = some (.bool (PL.g T p).1) ∧ w.frozen? ⟨b, p, none⟩ = false := by
  obtain ⟨b, cap, rfl, _, _⟩ := owns_shape h (by omega)
  refine ⟨b, cap, rfl, ?_, h.frozenAt p⟩
  rw [h.cellAt p (by omega), List.getElem?_map, List.getElem?_eq_getElem (by omega)]
  simp [PL.g, List.getD, show p < T.length by omega]
theorem row_byte {w : World} {base n : Nat} {vd : Value} {T : PL} (h : w.ownsRow base 5 1 vd n (T.map fun x => .int .u8 x.2)) (hn : n = T.length) (p : Nat) (hp : p < n) : ∃ b cap, vd = .slice (some ⟨b, 0, none⟩) n cap ∧ w.cell? ⟨b, p, none⟩ = some (.int .u8 (PL.g T p).2) ∧ w.frozen? ⟨b, p, none⟩ = false := by
  obtain ⟨b, cap, rfl, _, _⟩ := owns_shape h (by omega)
  refine ⟨b, cap, rfl, ?_, h.frozenAt p⟩
  rw [h.cellAt p (by omega), List.getElem?_map, List.getElem?_eq_getElem (by omega)]
  simp [PL.g, List.getD, show p < T.length by omega]
set_option maxRecDepth 20000 in
set_option maxHeartbeats 2000000 in
theorem wholeS (g base : Nat) (st win told read final en : Int) (sized : Bool) (vd vt : Value) (T : PL) (D : Nat → Prop) (w : World) (hb : mB w g st win told read final en sized vd vt) (hA : MA w D g base T vd vt) (hT : T.length ≤ 1000000) (hf0 : 0 ≤ final) (hf1 : final ≤ 1000000) :
    Calls Tryd.prog 45 #[.pointer (some ⟨g, 0, none⟩)] w fun e w' => e = .returned (.bool (wholeM sized final T)) ∧ ∃ n, w' = w.drewN n := by
  have c4 : w.cell? ⟨g, 4, none⟩ = some (.int .i64 final) := (bk_cell hb 4).trans rfl
  have c6 : w.cell? ⟨g, 6, none⟩ = some (.bool sized) := (bk_cell hb 6).trans rfl
  have c8 : w.cell? ⟨g, 8, none⟩ = some vt := (bk_cell hb 8).trans rfl
  obtain ⟨ta, tc, et⟩ : ∃ ta tc, vt = .slice ta T.length tc := by
    rcases hA.ot.2 with ⟨rfl, h1⟩ | ⟨g', cap, cur, rfl, _⟩
    · exact ⟨none, 0, by rw [h1]⟩
    · exact ⟨_, _, rfl⟩
  have HA : Hid _ := And.intro hA.ot True.intro
  subst et
  obtain ⟨n, en'⟩ : ∃ n, n = T.length := ⟨_, rfl⟩
  rw [← en'] at c8 hT HA
  have EN : Hid _ := en'
  clear hb hA
  cases sized
  · have e : wholeM false final T = false := rfl
    rw [e]
    clear en'
    go_enter Tryd.func45, Tryd.ntmps45
    go_wp2_with fail
    go_quiet (fail)
    go_wp2
    go_ret
    exact ⟨rfl, _, rfl⟩
  by_cases hl : (n : Int) < final
  · have e : wholeM true final T = false := by unfold wholeM; rw [decide_eq_false (by rw [← en']; omega)]; rfl
    rw [e]
    have hlb : decide ((n : Int) < final) = true := by simpa using hl
    clear en'
    go_enter Tryd.func45, Tryd.ntmps45
    go_wp2_with fail
    go_quiet (fail)
    go_wp2
    go_ret
    exact ⟨rfl, _, rfl⟩
  · have hlb : decide ((n : Int) < final) = false := by simpa using hl
    obtain ⟨F, eF⟩ : ∃ F : Nat, final = (F : Int) := ⟨final.toNat, by omega⟩
    subst eF
    have e : wholeM true (F : Int) T = (List.range F).all (fun i => (PL.g T i).1) := by unfold wholeM; rw [decide_eq_true (by rw [← en']; omega)]; rfl
    rw [e]
    clear en' e
    go_enter Tryd.func45, Tryd.ntmps45
    go_wp2_with fail
    go_quiet (fail)
    go_wp2_with fail
    go_loopg [3] F (fun q i wr => ∃ k nn : Nat, k ≤ F ∧ q = F - k ∧ i = .int .i64 (k : Int) ∧ wr = w.drewN nn ∧ ∀ j, j < k → (PL.g T j).1 = true)
    case atStart => exact ⟨0, _, by omega, by omega, rfl, rfl, fun j hj => by omega⟩
    case round =>
      obtain ⟨k, nn, hk, hq, rfl, ew, hall⟩ := hrel
      subst ew
      have d4 : (w.drewN nn).cell? ⟨g, 4, none⟩ = some (.int .i64 (F : Int)) := c4
      have d8 : (w.drewN nn).cell? ⟨g, 8, none⟩ = some (.slice ta n tc) := c8
      by_cases hlt : k < F
      · obtain ⟨b, cap, ev, hc, _⟩ := row_bool (p := k) HA.out.1 EN.out (by omega)
        simp only [Value.slice.injEq] at ev
        obtain ⟨rfl, -, rfl⟩ := ev
        have hc' : (w.drewN nn).cell? ⟨b, k, none⟩ = some (.bool (PL.g T k).1) := hc
        have hkn : (k : Int) < (n : Int) := by omega
        by_cases ht : (PL.g T k).1 = true
        · rw [ht] at hc'
          have HL : Hid _ := And.intro hall ht
          clear hall ht hc
          go_wp2_with fail
          go_roundg (F - (k + 1))
          case measure => omega
          case rel => exact ⟨k + 1, nn, by omega, rfl, by go_num, rfl, fun j hj => by
            by_cases e : j = k
            · rw [e]; exact HL.out.2
            · exact HL.out.1 j (by omega)⟩
        · have ht' : (PL.g T k).1 = false := by simpa using ht
          rw [ht'] at hc'
          have e2 : (List.range F).all (fun i => (PL.g T i).1) = false := by
            rw [Bool.eq_false_iff]; intro h
            rw [List.all_eq_true] at h
            have := h k (List.mem_range.2 hlt); rw [ht'] at this; cases this
          have HL : Hid _ := e2
          clear hall ht ht' hc e2
          go_wp2_with fail
          go_ret
          exact ⟨by rw [HL.out]; rfl, nn, rfl⟩
      · obtain rfl : k = F := by omega
        have e2 : (List.range k).all (fun i => (PL.g T i).1) = true := by
          rw [List.all_eq_true]; intro i hi; exact hall i (List.mem_range.1 hi)
        have HL : Hid _ := e2
        clear hall e2
        go_wp2_with fail
        go_ret
        exact ⟨by rw [HL.out]; rfl, nn, rfl⟩
end Go.Proofs.YtajachmhppoodaaDoor
