import Derived.Test.YtjikdecfampbiaaPhB
import Derived.Test.YtjikdecfampbiaaAppRow
import Derived.BigQuiet
namespace Go.Proofs.Ytjikdecfampbiaa
open Go.RowKit
set_option linter.unusedVariables false
set_option linter.unusedSimpArgs false

theorem own_setT {w : World} {e T s n base b i : Nat} {v u : Value} {L : List Value} {cs : Array Value} {fr : Nat × Nat} (h : w.ownsRow base e s v n L) (hb : w.heap[b]? = some (.cells cs T fr)) (hT : e ≠ T) : (w.setCell ⟨b, i, none⟩ u).ownsRow base e s v n L := by
  obtain ⟨hl, h2⟩ := h
  refine ⟨hl, ?_⟩
  rcases h2 with h2 | ⟨g', cap, cur, rfl, hg, hh, r⟩
  · exact Or.inl h2
  · refine Or.inr ⟨g', cap, cur, rfl, hg, (bk_other (fun e => ?_) i u).trans hh, r⟩
    subst e
    rw [hh] at hb
    have e2 := Option.some.inj hb
    injection e2 with _ e3
    exact hT e3
/-- The model's blocks. -/
def KS (x c1 c2 c3 : Nat) : Nat → Prop := fun k => k = x ∨ k = c1 ∨ k = c2 ∨ k = c3
/-- A row of 256, in memory. -/
def Row256 (w : World) (c : Nat) (T : TypeId) (f : Nat → Value) : Prop := ∃ A : Array Value, w.heap[c]? = some (.cells A T (0, 0)) ∧ A.size = 256 ∧ ∀ k, k < 256 → A[k]? = some (f k)
theorem Row256.cell {w : World} {c : Nat} {T : TypeId} {f : Nat → Value} (h : Row256 w c T f) (k : Nat) (hk : k < 256) : w.cell? ⟨c, k, none⟩ = some (f k) := by
  obtain ⟨A, b, s, a⟩ := h
  rw [bk_cell b]; exact a k hk
theorem Row256.free {w : World} {c : Nat} {T : TypeId} {f : Nat → Value} (h : Row256 w c T f) (k : Nat) : w.frozen? ⟨c, k, none⟩ = false := by
  obtain ⟨A, b, _⟩ := h
  exact bk_free b k
theorem Row256.lt {w : World} {c : Nat} {T : TypeId} {f : Nat → Value} (h : Row256 w c T f) : c < w.heap.size := by
  obtain ⟨A, b, _⟩ := h
  exact (Array.getElem?_eq_some_iff.1 b).1
theorem Row256.same {w w' : World} {c : Nat} {T : TypeId} {f : Nat → Value} (h : Row256 w c T f) (e : w'.heap[c]? = w.heap[c]?) : Row256 w' c T f := by
  obtain ⟨A, b, r⟩ := h
  exact ⟨A, e.trans b, r⟩
theorem Row256.set {w : World} {c : Nat} {T : TypeId} {f : Nat → Value} (h : Row256 w c T f) (k : Nat) (v : Value) : Row256 (w.setCell ⟨c, k, none⟩ v) c T (updF f k v) := by
  obtain ⟨A, b, s, a⟩ := h
  refine ⟨_, bk_set b k v, by simpa using s, fun j hj => ?_⟩
  by_cases e : j = k
  · subst e; rw [arr_set, if_pos ⟨rfl, by omega⟩, updF_at]
  · rw [arr_set, if_neg (by omega), updF_ne _ _ _ _ e]; exact a j hj
/-- One that waits, with where its bytes lie. -/
def zrow (z : (List Int × Nat) × Value) : List Value := [.int .i64 (z.1.2 : Int), z.2]
/-- The model's paths, in memory. -/
structure MB (w : World) (x c1 c2 c3 base : Nat) (m : PX) (wv : Value) (Z : List ((List Int × Nat) × Value)) : Prop where
  bk : w.heap[x]? = some (.cells #[.bool m.srv, .int .i64 (m.ad : Int), .slice (some ⟨c1, 0, none⟩) 256 256, .slice (some ⟨c2, 0, none⟩) 256 256, .slice (some ⟨c3, 0, none⟩) 256 256, wv] 48 (0, 0))
  r1 : Row256 w c1 3 (fun k => .int .i64 (m.cm k))
  r2 : Row256 w c2 3 (fun k => .int .i64 (m.st k))
  r3 : Row256 w c3 4 (fun k => .bool (m.va k))
  ne : c1 ≠ c2
  lo : base ≤ x ∧ base ≤ c1 ∧ base ≤ c2 ∧ base ≤ c3
  zs : Z.map (·.1) = m.ws
  of : OffR 75 2 w base wv (Z.map zrow)
  ow : ∀ z ∈ Z, w.ownsRow base 5 1 z.2 z.1.1.length (z.1.1.map (Value.int .u8))
def MRp (w : World) (x c1 c2 c3 base : Nat) (m : PX) : Prop := ∃ wv Z, MB w x c1 c2 c3 base m wv Z
section
variable {w w' : World} {x c1 c2 c3 base : Nat} {m : PX} {wv : Value} {Z : List ((List Int × Nat) × Value)}
theorem MB.x12 (h : MB w x c1 c2 c3 base m wv Z) : x ≠ c1 ∧ x ≠ c2 ∧ x ≠ c3 ∧ c1 ≠ c3 ∧ c2 ≠ c3 := by
  have ty : ∀ (a b : Nat) (A B : Array Value) (S T : TypeId), w.heap[a]? = some (.cells A S (0, 0)) → w.heap[b]? = some (.cells B T (0, 0)) → S ≠ T → a ≠ b := fun a b A B S T ha hb hn e => by
    subst e
    rw [ha] at hb
    have e2 := Option.some.inj hb
    injection e2 with _ e3
    exact hn e3
  obtain ⟨A1, b1, _⟩ := h.r1
  obtain ⟨A2, b2, _⟩ := h.r2
  obtain ⟨A3, b3, _⟩ := h.r3
  exact ⟨ty _ _ _ _ _ _ h.bk b1 (by decide), ty _ _ _ _ _ _ h.bk b2 (by decide), ty _ _ _ _ _ _ h.bk b3 (by decide), ty _ _ _ _ _ _ b1 b3 (by decide), ty _ _ _ _ _ _ b2 b3 (by decide)⟩
/-- The bytes lie apart from the books. -/
theorem own_notS (h : MB w x c1 c2 c3 base m wv Z) {b n : Nat} {v : Value} {xs : List Value} (o : w.ownsRow b 5 1 v n xs) : ∀ k, v.ownBlock = some k → ¬ KS x c1 c2 c3 k := by
  intro k hk hS
  rcases o.2 with ⟨rfl, _⟩ | ⟨g, cap, cur, rfl, _, hh, _⟩
  · cases hk
  obtain rfl : g = k := Option.some.inj hk
  have ty : ∀ (B : Array Value) (T : TypeId), w.heap[g]? = some (.cells B T (0, 0)) → 5 = T := fun B T hb => by
    rw [hh] at hb
    have e2 := Option.some.inj hb
    injection e2
  obtain ⟨A1, b1, _⟩ := h.r1
  obtain ⟨A2, b2, _⟩ := h.r2
  obtain ⟨A3, b3, _⟩ := h.r3
  rcases hS with rfl | rfl | rfl | rfl
  · exact absurd (ty _ _ h.bk) (by decide)
  · exact absurd (ty _ _ b1) (by decide)
  · exact absurd (ty _ _ b2) (by decide)
  · exact absurd (ty _ _ b3) (by decide)
theorem off_notS (h : MB w x c1 c2 c3 base m wv Z) {g : Nat} {c : Array Value} {fr : Nat × Nat} (hb : w.heap[g]? = some (.cells c 75 fr)) : ¬ KS x c1 c2 c3 g := by
  intro hS
  have ty : ∀ (B : Array Value) (T : TypeId), w.heap[g]? = some (.cells B T (0, 0)) → 75 = T := fun B T hb' => by
    rw [hb] at hb'
    have e2 := Option.some.inj hb'
    injection e2
  obtain ⟨A1, b1, _⟩ := h.r1
  obtain ⟨A2, b2, _⟩ := h.r2
  obtain ⟨A3, b3, _⟩ := h.r3
  rcases hS with rfl | rfl | rfl | rfl
  · exact absurd (ty _ _ h.bk) (by decide)
  · exact absurd (ty _ _ b1) (by decide)
  · exact absurd (ty _ _ b2) (by decide)
  · exact absurd (ty _ _ b3) (by decide)
theorem MB.below (h : MB w x c1 c2 c3 base m wv Z) (hb : Below w.heap.size w w') : MB w' x c1 c2 c3 base m wv Z :=
  ⟨(hb.block x (Array.getElem?_eq_some_iff.1 h.bk).1).trans h.bk, h.r1.same (hb.block _ h.r1.lt), h.r2.same (hb.block _ h.r2.lt), h.r3.same (hb.block _ h.r3.lt), h.ne, h.lo, h.zs, h.of.below hb, fun z hz => owns_below (h.ow z hz) hb⟩
theorem MB.cells (h : MB w x c1 c2 c3 base m wv Z) : w.cell? ⟨x, 0, none⟩ = some (.bool m.srv) ∧ w.cell? ⟨x, 1, none⟩ = some (.int .i64 (m.ad : Int)) ∧ w.cell? ⟨x, 2, none⟩ = some (.slice (some ⟨c1, 0, none⟩) 256 256) ∧ w.cell? ⟨x, 3, none⟩ = some (.slice (some ⟨c2, 0, none⟩) 256 256) ∧ w.cell? ⟨x, 4, none⟩ = some (.slice (some ⟨c3, 0, none⟩) 256 256) ∧ w.cell? ⟨x, 5, none⟩ = some wv :=
  ⟨(bk_cell h.bk 0).trans rfl, (bk_cell h.bk 1).trans rfl, (bk_cell h.bk 2).trans rfl, (bk_cell h.bk 3).trans rfl, (bk_cell h.bk 4).trans rfl, (bk_cell h.bk 5).trans rfl⟩
/-- A store into the paths' own block. -/
theorem MB.setX (h : MB w x c1 c2 c3 base m wv Z) (i : Nat) (u : Value) {m' : PX} {wv' : Value} (hc : (#[.bool m.srv, .int .i64 (m.ad : Int), .slice (some ⟨c1, 0, none⟩) 256 256, .slice (some ⟨c2, 0, none⟩) 256 256, .slice (some ⟨c3, 0, none⟩) 256 256, wv] : Array Value).setIfInBounds i u = #[.bool m'.srv, .int .i64 (m'.ad : Int), .slice (some ⟨c1, 0, none⟩) 256 256, .slice (some ⟨c2, 0, none⟩) 256 256, .slice (some ⟨c3, 0, none⟩) 256 256, wv'])
    (e1 : m'.cm = m.cm) (e2 : m'.st = m.st) (e3 : m'.va = m.va) {Z' : List ((List Int × Nat) × Value)} (hz : Z'.map (·.1) = m'.ws) (ho : OffR 75 2 w base wv' (Z'.map zrow)) (hw : ∀ z ∈ Z', w.ownsRow base 5 1 z.2 z.1.1.length (z.1.1.map (Value.int .u8))) : MB (w.setCell ⟨x, i, none⟩ u) x c1 c2 c3 base m' wv' Z' := by
  obtain ⟨n1, n2, n3, n4, n5⟩ := h.x12
  refine ⟨by rw [bk_set h.bk i u, hc], by rw [e1]; exact h.r1.same (bk_other (Ne.symm n1) i u), by rw [e2]; exact h.r2.same (bk_other (Ne.symm n2) i u), by rw [e3]; exact h.r3.same (bk_other (Ne.symm n3) i u), h.ne, h.lo, hz, ho.set h.bk (by decide), fun z hz' => ?_⟩
  have o := hw z hz'
  exact own_setT o h.bk (by decide)
theorem MB.setC (h : MB w x c1 c2 c3 base m wv Z) (k : Nat) (v : Int) : MB (w.setCell ⟨c1, k, none⟩ (.int .i64 v)) x c1 c2 c3 base { m with cm := updF m.cm k v } wv Z := by
  obtain ⟨n1, n2, n3, n4, n5⟩ := h.x12
  obtain ⟨A, b, _⟩ := h.r1
  refine ⟨(bk_other n1 k _).trans h.bk, ?_, h.r2.same (bk_other (Ne.symm h.ne) k _), h.r3.same (bk_other (Ne.symm n4) k _), h.ne, h.lo, h.zs, h.of.set b (by decide), fun z hz => own_setT (h.ow z hz) b (by decide)⟩
  have t := h.r1.set k (.int .i64 v)
  rw [show updF (fun k => Value.int .i64 (m.cm k)) k (.int .i64 v) = fun j => Value.int .i64 (updF m.cm k v j) from funext fun j => by unfold updF; split <;> rfl] at t
  exact t
theorem MB.setS (h : MB w x c1 c2 c3 base m wv Z) (k : Nat) (v : Int) : MB (w.setCell ⟨c2, k, none⟩ (.int .i64 v)) x c1 c2 c3 base { m with st := updF m.st k v } wv Z := by
  obtain ⟨n1, n2, n3, n4, n5⟩ := h.x12
  obtain ⟨A, b, _⟩ := h.r2
  refine ⟨(bk_other n2 k _).trans h.bk, h.r1.same (bk_other h.ne k _), ?_, h.r3.same (bk_other (Ne.symm n5) k _), h.ne, h.lo, h.zs, h.of.set b (by decide), fun z hz => own_setT (h.ow z hz) b (by decide)⟩
  have t := h.r2.set k (.int .i64 v)
  rw [show updF (fun k => Value.int .i64 (m.st k)) k (.int .i64 v) = fun j => Value.int .i64 (updF m.st k v j) from funext fun j => by unfold updF; split <;> rfl] at t
  exact t
theorem MB.setV (h : MB w x c1 c2 c3 base m wv Z) (k : Nat) (v : Bool) : MB (w.setCell ⟨c3, k, none⟩ (.bool v)) x c1 c2 c3 base { m with va := updF m.va k v } wv Z := by
  obtain ⟨n1, n2, n3, n4, n5⟩ := h.x12
  obtain ⟨A, b, _⟩ := h.r3
  refine ⟨(bk_other n3 k _).trans h.bk, h.r1.same (bk_other n4 k _), h.r2.same (bk_other n5 k _), ?_, h.ne, h.lo, h.zs, h.of.set b (by decide), fun z hz => own_setT (h.ow z hz) b (by decide)⟩
  have t := h.r3.set k (.bool v)
  rw [show updF (fun k => Value.bool (m.va k)) k (.bool v) = fun j => Value.bool (updF m.va k v j) from funext fun j => by unfold updF; split <;> rfl] at t
  exact t
end
set_option maxRecDepth 20000 in
set_option maxHeartbeats 2000000 in
theorem mayM (x c1 c2 c3 base : Nat) (m : PX) (wv : Value) (Z : List ((List Int × Nat) × Value)) (i : Nat) (w : World) (h : MB w x c1 c2 c3 base m wv Z) (hI : PXI i m) (hi : i ≤ 300) :
    Calls Try.prog 16 #[.pointer (some ⟨x, 0, none⟩)] w fun e w' => e = .returned (.int .i64 m.may) ∧ ∃ n, w' = w.drewN n := by
  obtain ⟨d0, d1, d2, d3, d4, d5⟩ := h.cells
  have ha := hI.ad
  have v3 := h.r3.cell m.ad ha
  have v1 := h.r1.cell m.ad ha
  have v2 := h.r2.cell m.ad ha
  have q1 := hI.cm m.ad
  have q2 := hI.st m.ad
  unfold PX.may
  generalize m.cm m.ad = a at *
  generalize m.st m.ad = b at *
  generalize m.va m.ad = t at *
  generalize m.ad = ad at *
  have hb : (ad : Int) < 256 := by omega
  have q3 : a ≤ 600000 := by omega
  have q4 : b ≤ 600000 := by omega
  have q5 := q1.1
  have q6 := q2.1
  clear h hI q1 q2 d0 d5
  cases t
  · go_enter Try.func16, Try.ntmps16
    go_wp2_with fail
    go_quiet (fail)
    go_wp2_with fail
    go_quiet (fail)
    go_wp2_with fail
    go_ret
    exact ⟨rfl, _, rfl⟩
  · go_enter Try.func16, Try.ntmps16
    go_wp2_with fail
    go_quiet (fail)
    go_wp2_with fail
    go_ret
    exact ⟨rfl, _, rfl⟩
end Go.Proofs.Ytjikdecfampbiaa
