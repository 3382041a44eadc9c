import Derived.Test.YtjikdecfampbiaaOfR
import Derived.Test.YtjikdecfampbiaaFbPathOpB
import Derived.Test.YtjikdecfampbiaaFlPathObs
import Derived.Lib.MinMax
namespace Go.Proofs.Ytjikdecfampbiaa
open Go.RowKit
set_option linter.unusedVariables false

/-- The paths: whether it is the server; the address in use; what came, was sent, is valid, by address; the challenges that wait. -/
structure PX where
  srv : Bool
  ad : Nat
  cm : Nat → Int
  st : Nat → Int
  va : Nat → Bool
  ws : List (List Int × Nat)
def updF {α : Type} (f : Nat → α) (k : Nat) (x : α) : Nat → α := fun j => if j = k then x else f j
theorem updF_at {α : Type} (f : Nat → α) (k : Nat) (x : α) : updF f k x k = x := by unfold updF; rw [if_pos rfl]
theorem updF_ne {α : Type} (f : Nat → α) (k : Nat) (x : α) (j : Nat) (h : j ≠ k) : updF f k x j = f j := by unfold updF; rw [if_neg h]
def PX.may (m : PX) : Int := if m.va m.ad then 4611686018427387903 else max 0 (3 * m.cm m.ad - m.st m.ad)
def wpush (ws : List (List Int × Nat)) (c : List Int × Nat) : List (List Int × Nat) := if ws.length < 4 then ws ++ [c] else (ws ++ [c]).tail
def wat (ws : List (List Int × Nat)) (D : List Int) : Nat := ws.findIdx (fun c => decide (c.1 = D))
def wdel (ws : List (List Int × Nat)) (a : Nat) : List (List Int × Nat) := ws.filter (fun c => !decide (c.2 = a))
def pstep (m : PX) (o : SPathOp) : PX × Int × Bool :=
  if o.f2 < 0 ∨ 255 < o.f2 ∨ o.f1 < 0 ∨ 2000 < o.f1 then (m, 1, false)
  else if o.f0 = 1 then (if m.srv = false ∧ o.f2 ≠ (m.ad : Int) then (m, 7, false) else ({ m with ad := o.f2.toNat, cm := updF m.cm o.f2.toNat (m.cm o.f2.toNat + o.f1) }, 0, false))
  else if o.f0 = 2 then (if m.may < o.f1 then (m, 8, false) else ({ m with st := updF m.st m.ad (m.st m.ad + o.f1) }, 0, false))
  else if o.f0 = 3 then (if o.f3.length ≠ 8 then (m, 1, false) else ({ m with ws := wpush m.ws (o.f3, m.ad) }, 0, false))
  else if o.f0 = 4 then (if o.f3.length ≠ 8 then (m, 1, false)
    else if wat m.ws o.f3 < m.ws.length then ({ m with va := updF m.va (m.ws.getD (wat m.ws o.f3) default).2 true, ws := wdel m.ws (m.ws.getD (wat m.ws o.f3) default).2 }, 0, true) else (m, 0, false))
  else (m, 1, false)
def pobs (s : PX × Int × Bool) : SPathObs := ⟨s.2.1, s.1.ad, s.1.may, s.1.va s.1.ad, s.2.2⟩
def px0 (srv : Bool) : PX := ⟨srv, 0, fun _ => 0, fun _ => 0, updF (fun _ => false) 0 (!srv), []⟩
def prunP (srv : Bool) (R : List SPathOp) : Nat → PX
  | 0 => px0 srv
  | k + 1 => (pstep (prunP srv R k) (R.getD k default)).1
def pobsAt (srv : Bool) (R : List SPathOp) (k : Nat) : SPathObs := pobs (pstep (prunP srv R k) (R.getD k default))
/-- What PathRun answers. -/
def prY (srv : Bool) (R : List SPathOp) : List SPathObs := if 300 < R.length then [] else (List.range R.length).map (pobsAt srv R)
def prC (R : List SPathOp) : Int := if 300 < R.length then 4 else 0
/-- What holds behind i operations. -/
structure PXI (i : Nat) (m : PX) : Prop where
  ad : m.ad < 256
  cm : ∀ k, 0 ≤ m.cm k ∧ m.cm k ≤ 2000 * (i : Int)
  st : ∀ k, 0 ≤ m.st k ∧ m.st k ≤ 2000 * (i : Int)
  wl : m.ws.length ≤ 4
  wd : ∀ c ∈ m.ws, c.1.length = 8 ∧ c.2 < 256
  wb : ∀ c ∈ m.ws, ∀ x ∈ c.1, 0 ≤ x ∧ x < 256
theorem wat_at (ws : List (List Int × Nat)) (D : List Int) (h : wat ws D < ws.length) : (ws.getD (wat ws D) default) ∈ ws ∧ (ws.getD (wat ws D) default).1 = D := by
  have e : ws.getD (wat ws D) default = ws[wat ws D] := by simp [List.getD, h]
  rw [e]
  refine ⟨List.getElem_mem h, ?_⟩
  have := List.findIdx_getElem (p := fun c : List Int × Nat => decide (c.1 = D)) (xs := ws) (w := h)
  exact of_decide_eq_true this
theorem PXI.step {i : Nat} {m : PX} (h : PXI i m) (o : SPathOp) (hb : ∀ x ∈ o.f3, 0 ≤ x ∧ x < 256) : PXI (i + 1) (pstep m o).1 := by
  have up : PXI (i + 1) m := ⟨h.ad, fun k => by have := h.cm k; omega, fun k => by have := h.st k; omega, h.wl, h.wd, h.wb⟩
  unfold pstep
  split
  · exact up
  rename_i c0
  split
  · split
    · exact up
    · refine ⟨by show o.f2.toNat < 256; omega, fun k => ?_, fun k => up.st k, up.wl, up.wd, up.wb⟩
      show 0 ≤ updF m.cm _ _ k ∧ updF m.cm _ _ k ≤ _
      by_cases e : k = o.f2.toNat
      · rw [e, updF_at]; have := h.cm o.f2.toNat; omega
      · rw [updF_ne _ _ _ _ e]; exact up.cm k
  split
  · split
    · exact up
    · refine ⟨h.ad, fun k => up.cm k, fun k => ?_, up.wl, up.wd, up.wb⟩
      show 0 ≤ updF m.st _ _ k ∧ updF m.st _ _ k ≤ _
      by_cases e : k = m.ad
      · rw [e, updF_at]; have := h.st m.ad; omega
      · rw [updF_ne _ _ _ _ e]; exact up.st k
  split
  · split
    · exact up
    · rename_i c8
      have hm : ∀ c ∈ wpush m.ws (o.f3, m.ad), c ∈ m.ws ∨ c = (o.f3, m.ad) := fun c hc => by
        unfold wpush at hc
        split at hc
        · rcases List.mem_append.1 hc with z | z
          · exact Or.inl z
          · exact Or.inr (by simpa using z)
        · rcases List.mem_append.1 (List.mem_of_mem_tail hc) with z | z
          · exact Or.inl z
          · exact Or.inr (by simpa using z)
      refine ⟨h.ad, up.cm, up.st, ?_, fun c hc => ?_, fun c hc => ?_⟩
      · show (wpush m.ws (o.f3, m.ad)).length ≤ 4
        have := h.wl
        unfold wpush
        split <;> simp <;> omega
      · rcases hm c hc with z | rfl
        · exact h.wd c z
        · exact ⟨by simpa using c8, h.ad⟩
      · rcases hm c hc with z | rfl
        · exact h.wb c z
        · exact hb
  split
  · split
    · exact up
    split
    · refine ⟨h.ad, up.cm, up.st, Nat.le_trans (List.length_filter_le _ _) h.wl, fun c hc => h.wd c (List.mem_filter.1 hc).1, fun c hc => h.wb c (List.mem_filter.1 hc).1⟩
    · exact up
  · exact up
theorem PXI.zero (srv : Bool) : PXI 0 (px0 srv) := ⟨by show 0 < 256; omega, fun k => ⟨Int.le_refl _, Int.le_refl _⟩, fun k => ⟨Int.le_refl _, Int.le_refl _⟩, Nat.zero_le _, (fun c hc => by cases hc), (fun c hc => by cases hc)⟩
theorem prunP_inv (srv : Bool) (R : List SPathOp) (hb : ∀ j, ∀ x ∈ (R.getD j default).f3, 0 ≤ x ∧ x < 256) : ∀ k, PXI k (prunP srv R k)
  | 0 => PXI.zero srv
  | k + 1 => (prunP_inv srv R hb k).step _ (hb k)
theorem PXI.may {i : Nat} {m : PX} (h : PXI i m) (hi : i ≤ 300) : 0 ≤ m.may ∧ m.may ≤ 4611686018427387903 := by
  have h1 := h.cm m.ad
  have h2 := h.st m.ad
  unfold PX.may
  split <;> omega
/-- A challenge that waits, as cells. -/
def wrow (c : List Int × Nat) : List Value := c.1.map (Value.int .u8) ++ [.int .i64 (c.2 : Int)]
/-- The program's paths, in memory. -/
def PB (w : World) (g : Nat) (m : PX) (wv : Value) : Prop :=
  ∃ cs : Array Value, w.heap[g]? = some (.cells cs 65 (0, 0)) ∧ cs.size = 771 ∧ cs[0]? = some (.bool m.srv) ∧ cs[1]? = some (.int .i64 (m.ad : Int)) ∧
    (∀ k, k < 256 → cs[2 + k * 3]? = some (.int .i64 (m.cm k)) ∧ cs[2 + k * 3 + 1]? = some (.int .i64 (m.st k)) ∧ cs[2 + k * 3 + 2]? = some (.bool (m.va k))) ∧ cs[770]? = some wv
def PRep (w : World) (g base : Nat) (m : PX) : Prop := ∃ wv, PB w g m wv ∧ OffR 80 9 w base wv (m.ws.map wrow)
theorem PB.free {w : World} {g : Nat} {m : PX} {wv : Value} (h : PB w g m wv) (k : Nat) : w.frozen? ⟨g, k, none⟩ = false := by
  obtain ⟨cs, b, _⟩ := h
  exact bk_free b k
theorem PB.lt {w : World} {g : Nat} {m : PX} {wv : Value} (h : PB w g m wv) : g < w.heap.size := by
  obtain ⟨cs, b, _⟩ := h
  exact (Array.getElem?_eq_some_iff.1 b).1
theorem PB.c0 {w : World} {g : Nat} {m : PX} {wv : Value} (h : PB w g m wv) : w.cell? ⟨g, 0, none⟩ = some (.bool m.srv) := by
  obtain ⟨cs, b, _, c, _⟩ := h
  rw [bk_cell b]; exact c
theorem PB.c1 {w : World} {g : Nat} {m : PX} {wv : Value} (h : PB w g m wv) : w.cell? ⟨g, 1, none⟩ = some (.int .i64 (m.ad : Int)) := by
  obtain ⟨cs, b, _, _, c, _⟩ := h
  rw [bk_cell b]; exact c
theorem PB.cw {w : World} {g : Nat} {m : PX} {wv : Value} (h : PB w g m wv) : w.cell? ⟨g, 770, none⟩ = some wv := by
  obtain ⟨cs, b, _, _, _, _, c⟩ := h
  rw [bk_cell b]; exact c
theorem PB.ck {w : World} {g : Nat} {m : PX} {wv : Value} (h : PB w g m wv) (k : Nat) (hk : k < 256) : w.cell? ⟨g, 2 + k * 3, none⟩ = some (.int .i64 (m.cm k)) ∧ w.cell? ⟨g, 2 + k * 3 + 1, none⟩ = some (.int .i64 (m.st k)) ∧ w.cell? ⟨g, 2 + k * 3 + 2, none⟩ = some (.bool (m.va k)) := by
  obtain ⟨cs, b, _, _, _, c, _⟩ := h
  rw [bk_cell b, bk_cell b, bk_cell b]; exact c k hk
theorem inUseI (g : Nat) (m : PX) (wv : Value) (w : World) (h : PB w g m wv) (had : m.ad < 256) :
    Calls Try.prog 35 #[.pointer (some ⟨g, 0, none⟩)] w fun e w' => e = .returned (.pointer (some ⟨g, 2 + m.ad * 3, none⟩)) ∧ ∃ n, w' = w.drewN n := by
  have d1 := h.c1
  generalize m.ad = ad at *
  have hb : (ad : Int) < 256 := by omega
  clear h
  go_enter Try.func35, Try.ntmps35
  go_wp2_with fail
  go_quiet (fail)
  go_wp2_with fail
  go_ret
  exact ⟨rfl, _, rfl⟩
theorem mayI (a b : Int) (t : Bool) (w : World) (ha : 0 ≤ a ∧ a ≤ 600000) (hb : 0 ≤ b ∧ b ≤ 600000) :
    Calls Try.prog 36 #[.agg #[.int .i64 a, .int .i64 b, .bool t]] w fun e w' => e = .returned (.int .i64 (if t then 4611686018427387903 else max 0 (3 * a - b))) ∧ Below w.heap.size w w' := by
  cases t
  · go_enter Try.func36, Try.ntmps36
    go_wp2_with fail
    go_ret
    exact ⟨rfl, (Below.refl _ _).alloc (Nat.le_refl _) _⟩
  · go_enter Try.func36, Try.ntmps36
    go_wp2_with fail
    go_ret
    exact ⟨rfl, (Below.refl _ _).alloc (Nat.le_refl _) _⟩
end Go.Proofs.Ytjikdecfampbiaa
