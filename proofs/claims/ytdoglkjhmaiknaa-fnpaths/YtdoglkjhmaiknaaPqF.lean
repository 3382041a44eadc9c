import Derived.Test.YtdoglkjhmaiknaaPqD
import Derived.Test.YtdoglkjhmaiknaaAppRow
import Derived.BigQuiet
import Derived.Deep.RegionLaw
import Derived.Deep.RegionHeld3
import Derived.Deep.LoopGhost
import Derived.Lib.MinMax
namespace Go.Proofs.Ytdoglkjhmaiknaa
open Go.RowKit
set_option linter.unusedVariables false
set_option linter.unusedSimpArgs false

theorem arr_set {cs : Array Value} {i : Nat} (u : Value) (j : Nat) : (cs.setIfInBounds i u)[j]? = if i = j ∧ i < cs.size then some u else cs[j]? := by
  rw [Array.getElem?_setIfInBounds]
  by_cases e : i = j
  · subst e
    rw [if_pos rfl]
    by_cases h : i < cs.size
    · rw [if_pos h, if_pos ⟨rfl, h⟩]
    · rw [if_neg h, if_neg (fun x => h x.2), Array.getElem?_eq_none (by omega)]
  · rw [if_neg e, if_neg (fun x => e x.1)]
section
variable {w w' : World} {g : Nat} {m : PX} {wv : Value}
theorem PB.drewN (h : PB w g m wv) (n : Nat) : PB (w.drewN n) g m wv := h
theorem PB.bk (h : PB w g m wv) : ∃ cs : Array Value, w.heap[g]? = some (.cells cs 60 (0, 0)) := by
  obtain ⟨cs, b, _⟩ := h
  exact ⟨cs, b⟩
theorem PB.same (h : PB w g m wv) (e : w'.heap[g]? = w.heap[g]?) : PB w' g m wv := by
  obtain ⟨cs, b, r⟩ := h
  exact ⟨cs, e.trans b, r⟩
theorem PB.setAd (h : PB w g m wv) (a : Nat) : PB (w.setCell ⟨g, 1, none⟩ (.int .i64 (a : Int))) g { m with ad := a } wv := by
  obtain ⟨cs, b, s, c0, c1, ck, cw⟩ := h
  refine ⟨_, bk_set b 1 _, by simpa using s, ?_, ?_, fun k hk => ⟨?_, ?_, ?_⟩, ?_⟩
  · rw [arr_set, if_neg (by omega)]; exact c0
  · rw [arr_set, if_pos ⟨rfl, by omega⟩]
  · rw [arr_set, if_neg (by omega)]; exact (ck k hk).1
  · rw [arr_set, if_neg (by omega)]; exact (ck k hk).2.1
  · rw [arr_set, if_neg (by omega)]; exact (ck k hk).2.2
  · rw [arr_set, if_neg (by omega)]; exact cw
theorem PB.setCm (h : PB w g m wv) (a : Nat) (ha : a < 256) (x : Int) : PB (w.setCell ⟨g, 2 + a * 3, none⟩ (.int .i64 x)) g { m with cm := updF m.cm a x } wv := by
  obtain ⟨cs, b, s, c0, c1, ck, cw⟩ := h
  refine ⟨_, bk_set b _ _, by simpa using s, ?_, ?_, fun k hk => ⟨?_, ?_, ?_⟩, ?_⟩
  · rw [arr_set, if_neg (by omega)]; exact c0
  · rw [arr_set, if_neg (by omega)]; exact c1
  · show _ = some (Value.int .i64 (updF m.cm a x k))
    by_cases e : k = a
    · subst e; rw [arr_set, if_pos ⟨rfl, by omega⟩, updF_at]
    · rw [arr_set, if_neg (by omega), updF_ne _ _ _ _ e]; exact (ck k hk).1
  · rw [arr_set, if_neg (by omega)]; exact (ck k hk).2.1
  · rw [arr_set, if_neg (by omega)]; exact (ck k hk).2.2
  · rw [arr_set, if_neg (by omega)]; exact cw
theorem PB.setSt (h : PB w g m wv) (a : Nat) (ha : a < 256) (x : Int) : PB (w.setCell ⟨g, 2 + a * 3 + 1, none⟩ (.int .i64 x)) g { m with st := updF m.st a x } wv := by
  obtain ⟨cs, b, s, c0, c1, ck, cw⟩ := h
  refine ⟨_, bk_set b _ _, by simpa using s, ?_, ?_, fun k hk => ⟨?_, ?_, ?_⟩, ?_⟩
  · rw [arr_set, if_neg (by omega)]; exact c0
  · rw [arr_set, if_neg (by omega)]; exact c1
  · rw [arr_set, if_neg (by omega)]; exact (ck k hk).1
  · show _ = some (Value.int .i64 (updF m.st a x k))
    by_cases e : k = a
    · subst e; rw [arr_set, if_pos ⟨rfl, by omega⟩, updF_at]
    · rw [arr_set, if_neg (by omega), updF_ne _ _ _ _ e]; exact (ck k hk).2.1
  · rw [arr_set, if_neg (by omega)]; exact (ck k hk).2.2
  · rw [arr_set, if_neg (by omega)]; exact cw
theorem PB.setVa (h : PB w g m wv) (a : Nat) (ha : a < 256) (x : Bool) : PB (w.setCell ⟨g, 2 + a * 3 + 2, none⟩ (.bool x)) g { m with va := updF m.va a x } wv := by
  obtain ⟨cs, b, s, c0, c1, ck, cw⟩ := h
  refine ⟨_, bk_set b _ _, by simpa using s, ?_, ?_, fun k hk => ⟨?_, ?_, ?_⟩, ?_⟩
  · rw [arr_set, if_neg (by omega)]; exact c0
  · rw [arr_set, if_neg (by omega)]; exact c1
  · rw [arr_set, if_neg (by omega)]; exact (ck k hk).1
  · rw [arr_set, if_neg (by omega)]; exact (ck k hk).2.1
  · show _ = some (Value.bool (updF m.va a x k))
    by_cases e : k = a
    · subst e; rw [arr_set, if_pos ⟨rfl, by omega⟩, updF_at]
    · rw [arr_set, if_neg (by omega), updF_ne _ _ _ _ e]; exact (ck k hk).2.2
  · rw [arr_set, if_neg (by omega)]; exact cw
theorem PB.setW (h : PB w g m wv) (wv' : Value) (ws : List (List Int × Nat)) : PB (w.setCell ⟨g, 770, none⟩ wv') g { m with ws := ws } wv' := by
  obtain ⟨cs, b, s, c0, c1, ck, cw⟩ := h
  refine ⟨_, bk_set b _ _, by simpa using s, ?_, ?_, fun k hk => ⟨?_, ?_, ?_⟩, ?_⟩
  · rw [arr_set, if_neg (by omega)]; exact c0
  · rw [arr_set, if_neg (by omega)]; exact c1
  · rw [arr_set, if_neg (by omega)]; exact (ck k hk).1
  · rw [arr_set, if_neg (by omega)]; exact (ck k hk).2.1
  · rw [arr_set, if_neg (by omega)]; exact (ck k hk).2.2
  · rw [arr_set, if_pos ⟨rfl, by omega⟩]
/-- A store into the paths leaves the challenges. -/
theorem PB.off {base i : Nat} {u : Value} {v : Value} {L : List (List Value)} (h : PB w g m wv) (o : OffR 74 9 w base v L) : OffR 74 9 (w.setCell ⟨g, i, none⟩ u) base v L := by
  obtain ⟨cs, b⟩ := h.bk
  exact o.set b (by decide)
end
theorem ChS.setG {T : TypeId} {g base : Nat} {w w1 : World} (h : ChS (fun k => k = g) T base w w1) (hb : base ≤ g) (o : Nat) (v : Value) : ChS (fun k => k = g) T base w (w1.setCell ⟨g, o, none⟩ v) := h.setS rfl hb o v
/-- What a method of the program's paths leaves. -/
def PDo (g base : Nat) (w w' : World) (m' : PX) : Prop := PRep w' g base m' ∧ ChS (fun k => k = g) 74 base w w'
set_option maxRecDepth 20000 in
set_option maxHeartbeats 1000000 in
theorem hearI (g base : Nat) (m : PX) (a : Nat) (n : Int) (i : Nat) (w : World) (h : PRep w g base m) (hg : base ≤ g) (hI : PXI i m) (hi : i ≤ 300) (ha : a < 256) (hn : 0 ≤ n ∧ n ≤ 2000) :
    Calls Try.prog 23 #[.pointer (some ⟨g, 0, none⟩), .int .i64 (a : Int), .int .i64 n] w fun e w' => e = .returned (.int .i64 (if m.srv = false ∧ (a : Int) ≠ m.ad then 7 else 0)) ∧ PDo g base w w' (if m.srv = false ∧ (a : Int) ≠ m.ad then m else { m with ad := a, cm := updF m.cm a (m.cm a + n) }) := by
  obtain ⟨wv, hB, hO⟩ := h
  have d0 := hB.c0
  have d1 := hB.c1
  have f1 := hB.free 1
  by_cases hc : m.srv = false ∧ (a : Int) ≠ m.ad
  · rw [if_pos hc, if_pos hc]
    rw [hc.1] at d0
    have hne : ((a : Int) != (m.ad : Int)) = true := by simpa using hc.2
    have HH : Hid _ := And.intro hB hO
    clear hB hO hc
    generalize m.ad = ad at *
    go_enter Try.func23, Try.ntmps23
    go_wp2
    go_ret
    exact ⟨rfl, ⟨wv, HH.out.1, HH.out.2⟩, ChS.refl _ _ _ _⟩
  · rw [if_neg hc, if_neg hc]
    have B1 := hB.setAd a
    have U := inUseI g _ wv _ B1 ha
    have k1 := (B1.ck a ha).1
    have k2 := B1.free (2 + a * 3)
    have cm := hI.cm a
    have HB : Hid _ := And.intro hB (And.intro hO (And.intro B1 (And.intro U hg)))
    dsimp only at k1
    obtain ⟨x, ex⟩ : ∃ x, x = m.cm a := ⟨_, rfl⟩
    rw [← ex] at k1 cm
    rw [← ex]
    have hx : Hid (x = m.cm a) := ex
    have fin' : ∀ q : Nat, PDo g base w (((w.setCell ⟨g, 1, none⟩ (.int .i64 (a : Int))).drewN q).setCell ⟨g, 2 + a * 3, none⟩ (.int .i64 (x + n))) { m with ad := a, cm := updF m.cm a (x + n) } := fun q => ⟨⟨wv, B1.setCm a ha _, B1.off (hB.off hO)⟩, (((ChS.refl _ _ _ _).setG hg 1 _).drewN q).setG hg _ _⟩
    have HF : Hid _ := And.intro fin' True.intro
    clear hO B1 U ex fin' hB
    by_cases hs : m.srv = false
    · have he : (a : Int) = m.ad := by
        by_cases q : (a : Int) = m.ad
        · exact q
        · exact absurd ⟨hs, q⟩ hc
      have hne : ((a : Int) != (m.ad : Int)) = false := by simpa using he
      rw [hs] at d0
      have Hhe : Hid _ := And.intro he (And.intro hs hc)
      clear he hs hc
      go_enter Try.func23, Try.ntmps23
      go_wp2_with fail
      go_at_call 28
      refine HB.out.2.2.2.1.mono ?_
      rintro e w1 ⟨rfl, q, hw⟩
      subst hw
      go_wp2_with fail
      go_ret
      exact ⟨rfl, HF.out.1 q⟩
    · have hs : m.srv = true := by simpa using hs
      rw [hs] at d0
      have Hhe : Hid _ := And.intro hs hc
      clear hs hc
      go_enter Try.func23, Try.ntmps23
      go_wp2_with fail
      go_at_call 28
      refine HB.out.2.2.2.1.mono ?_
      rintro e w1 ⟨rfl, q, hw⟩
      subst hw
      go_wp2_with fail
      go_ret
      exact ⟨rfl, HF.out.1 q⟩
set_option maxRecDepth 20000 in
set_option maxHeartbeats 1000000 in
theorem sendI (g base : Nat) (m : PX) (n : Int) (i : Nat) (w : World) (h : PRep w g base m) (hg : base ≤ g) (hI : PXI i m) (hi : i ≤ 300) (hn : 0 ≤ n ∧ n ≤ 2000) :
    Calls Try.prog 24 #[.pointer (some ⟨g, 0, none⟩), .int .i64 n] w fun e w' => e = .returned (.int .i64 (if m.may < n then 8 else 0)) ∧ PDo g base w w' (if m.may < n then m else { m with st := updF m.st m.ad (m.st m.ad + n) }) := by
  obtain ⟨wv, hB, hO⟩ := h
  have ha := hI.ad
  have U : ∀ W : World, PB W g m wv → Calls Try.prog 28 #[.pointer (some ⟨g, 0, none⟩)] W fun e w' => e = .returned (.pointer (some ⟨g, 2 + m.ad * 3, none⟩)) ∧ ∃ n, w' = W.drewN n := fun W b => inUseI g m wv W b ha
  obtain ⟨k1, k2, k3⟩ := hB.ck m.ad ha
  have cm := hI.cm m.ad
  have st := hI.st m.ad
  have f1 := hB.free (2 + m.ad * 3 + 1)
  have M : ∀ W : World, Calls Try.prog 29 #[.agg #[.int .i64 (m.cm m.ad), .int .i64 (m.st m.ad), .bool (m.va m.ad)]] W fun e w' => e = .returned (.int .i64 m.may) ∧ Below W.heap.size W w' := fun W => mayI _ _ _ W (by omega) (by omega)
  have HB : Hid _ := And.intro hB (And.intro hO (And.intro U (And.intro M hg)))
  have may := hI.may hi
  obtain ⟨ad, ead⟩ : ∃ ad, ad = m.ad := ⟨_, rfl⟩
  obtain ⟨x, ex⟩ : ∃ x, x = m.cm m.ad := ⟨_, rfl⟩
  obtain ⟨y, ey⟩ : ∃ x, x = m.st m.ad := ⟨_, rfl⟩
  obtain ⟨t, et⟩ : ∃ x, x = m.va m.ad := ⟨_, rfl⟩
  obtain ⟨mm, em⟩ : ∃ x, x = m.may := ⟨_, rfl⟩
  rw [← ex, ← ey, ← et, ← em, ← ead] at HB
  rw [← ex, ← ead] at k1
  rw [← ey, ← ead] at k2
  rw [← et, ← ead] at k3
  rw [← ead] at f1 ha
  rw [← ey] at st
  rw [← em] at may
  rw [← em, ← ey, ← ead]
  have HE : Hid _ := And.intro ead (And.intro ex (And.intro ey (And.intro et em)))
  clear hB hO U M ead ex ey et em cm
  by_cases hc : mm < n
  · rw [if_pos hc, if_pos hc]
    go_enter Try.func24, Try.ntmps24
    go_wp2_with fail
    go_at_call 28
    refine (HB.out.2.2.1 w HB.out.1).mono ?_
    rintro e w1 ⟨rfl, q, hw⟩
    subst hw
    go_wp2_with fail
    go_at_call 29
    refine (HB.out.2.2.2.1 (w.drewN q)).mono ?_
    rintro e w2 ⟨rfl, b2⟩
    have H2 : Hid _ := And.intro b2 True.intro
    clear b2
    go_wp2_with fail
    go_ret
    have hb : Below w.heap.size w w2 := (Below.refl _ _ |> fun z => below_drewN z q).trans H2.out.1
    exact ⟨rfl, ⟨wv, HB.out.1.same (hb.block g HB.out.1.lt), HB.out.2.1.below hb⟩, ChS.of_below hb⟩
  · rw [if_neg hc, if_neg hc]
    go_enter Try.func24, Try.ntmps24
    go_wp2_with fail
    go_at_call 28
    refine (HB.out.2.2.1 w HB.out.1).mono ?_
    rintro e w1 ⟨rfl, q, hw⟩
    subst hw
    go_wp2_with fail
    go_at_call 29
    refine (HB.out.2.2.2.1 (w.drewN q)).mono ?_
    rintro e w2 ⟨rfl, b2⟩
    have hb : Below w.heap.size w w2 := (Below.refl _ _ |> fun z => below_drewN z q).trans b2
    have B2 : PB w2 g m wv := HB.out.1.same (hb.block g HB.out.1.lt)
    have z1 : w2.cell? ⟨g, 2 + ad * 3 + 1, none⟩ = some (.int .i64 y) := (hb.cell (p := ⟨g, 2 + ad * 3 + 1, none⟩) HB.out.1.lt).trans k2
    have z2 := B2.free (2 + ad * 3 + 1)
    have H2 : Hid _ := And.intro hb B2
    clear b2 hb B2 f1 k1 k2 k3
    go_wp2_with fail
    go_at_call 28
    refine (HB.out.2.2.1 w2 H2.out.2).mono ?_
    rintro e w3 ⟨rfl, q3, hw⟩
    subst hw
    go_wp2_with fail
    go_ret
    have B3 := (H2.out.2.drewN q3).setSt ad ha (y + n)
    rw [HE.out.1, HE.out.2.2.1] at B3 ⊢
    have o2 := HB.out.2.1.below H2.out.1
    exact ⟨rfl, ⟨wv, B3, (H2.out.2.drewN q3).off o2⟩, ((ChS.of_below H2.out.1).drewN q3).setG HB.out.2.2.2.2 _ _⟩
end Go.Proofs.Ytdoglkjhmaiknaa

namespace Go.Proofs.Ytdoglkjhmaiknaa
open Go.RowKit
set_option linter.unusedVariables false
set_option linter.unusedSimpArgs false

theorem own_setT {w : World} {e T s n base b i : Nat} {v u : Value} {L : List Value} {cs : Array Value} {fr : Nat × Nat} (h : w.ownsRow base e s v n L) (hb : w.heap[b]? = some (.cells cs T fr)) (hT : e ≠ T) : (w.setCell ⟨b, i, none⟩ u).ownsRow base e s v n L := by
  obtain ⟨hl, h2⟩ := h
  refine ⟨hl, ?_⟩
  rcases h2 with h2 | ⟨g', cap, cur, rfl, hg, hh, r⟩
  · exact Or.inl h2
  · refine Or.inr ⟨g', cap, cur, rfl, hg, (bk_other (fun e => ?_) i u).trans hh, r⟩
    subst e
    rw [hh] at hb
    have e2 := Option.some.inj hb
    injection e2 with _ e3
    exact hT e3
/-- The model's blocks. -/
def KS (x c1 c2 c3 : Nat) : Nat → Prop := fun k => k = x ∨ k = c1 ∨ k = c2 ∨ k = c3
/-- A row of 256, in memory. -/
def Row256 (w : World) (c : Nat) (T : TypeId) (f : Nat → Value) : Prop := ∃ A : Array Value, w.heap[c]? = some (.cells A T (0, 0)) ∧ A.size = 256 ∧ ∀ k, k < 256 → A[k]? = some (f k)
theorem Row256.cell {w : World} {c : Nat} {T : TypeId} {f : Nat → Value} (h : Row256 w c T f) (k : Nat) (hk : k < 256) : w.cell? ⟨c, k, none⟩ = some (f k) := by
  obtain ⟨A, b, s, a⟩ := h
  rw [bk_cell b]; exact a k hk
theorem Row256.free {w : World} {c : Nat} {T : TypeId} {f : Nat → Value} (h : Row256 w c T f) (k : Nat) : w.frozen? ⟨c, k, none⟩ = false := by
  obtain ⟨A, b, _⟩ := h
  exact bk_free b k
theorem Row256.lt {w : World} {c : Nat} {T : TypeId} {f : Nat → Value} (h : Row256 w c T f) : c < w.heap.size := by
  obtain ⟨A, b, _⟩ := h
  exact (Array.getElem?_eq_some_iff.1 b).1
theorem Row256.same {w w' : World} {c : Nat} {T : TypeId} {f : Nat → Value} (h : Row256 w c T f) (e : w'.heap[c]? = w.heap[c]?) : Row256 w' c T f := by
  obtain ⟨A, b, r⟩ := h
  exact ⟨A, e.trans b, r⟩
theorem Row256.set {w : World} {c : Nat} {T : TypeId} {f : Nat → Value} (h : Row256 w c T f) (k : Nat) (v : Value) : Row256 (w.setCell ⟨c, k, none⟩ v) c T (updF f k v) := by
  obtain ⟨A, b, s, a⟩ := h
  refine ⟨_, bk_set b k v, by simpa using s, fun j hj => ?_⟩
  by_cases e : j = k
  · subst e; rw [arr_set, if_pos ⟨rfl, by omega⟩, updF_at]
  · rw [arr_set, if_neg (by omega), updF_ne _ _ _ _ e]; exact a j hj
/-- One that waits, with where its bytes lie. -/
def zrow (z : (List Int × Nat) × Value) : List Value := [.int .i64 (z.1.2 : Int), z.2]
/-- The model's paths, in memory. -/
structure MB (w : World) (x c1 c2 c3 base : Nat) (m : PX) (wv : Value) (Z : List ((List Int × Nat) × Value)) : Prop where
  bk : w.heap[x]? = some (.cells #[.bool m.srv, .int .i64 (m.ad : Int), .slice (some ⟨c1, 0, none⟩) 256 256, .slice (some ⟨c2, 0, none⟩) 256 256, .slice (some ⟨c3, 0, none⟩) 256 256, wv] 47 (0, 0))
  r1 : Row256 w c1 3 (fun k => .int .i64 (m.cm k))
  r2 : Row256 w c2 3 (fun k => .int .i64 (m.st k))
  r3 : Row256 w c3 4 (fun k => .bool (m.va k))
  ne : c1 ≠ c2
  lo : base ≤ x ∧ base ≤ c1 ∧ base ≤ c2 ∧ base ≤ c3
  zs : Z.map (·.1) = m.ws
  of : OffR 69 2 w base wv (Z.map zrow)
  ow : ∀ z ∈ Z, w.ownsRow base 5 1 z.2 z.1.1.length (z.1.1.map (Value.int .u8))
def MRp (w : World) (x c1 c2 c3 base : Nat) (m : PX) : Prop := ∃ wv Z, MB w x c1 c2 c3 base m wv Z
section
variable {w w' : World} {x c1 c2 c3 base : Nat} {m : PX} {wv : Value} {Z : List ((List Int × Nat) × Value)}
theorem MB.x12 (h : MB w x c1 c2 c3 base m wv Z) : x ≠ c1 ∧ x ≠ c2 ∧ x ≠ c3 ∧ c1 ≠ c3 ∧ c2 ≠ c3 := by
  have ty : ∀ (a b : Nat) (A B : Array Value) (S T : TypeId), w.heap[a]? = some (.cells A S (0, 0)) → w.heap[b]? = some (.cells B T (0, 0)) → S ≠ T → a ≠ b := fun a b A B S T ha hb hn e => by
    subst e
    rw [ha] at hb
    have e2 := Option.some.inj hb
    injection e2 with _ e3
    exact hn e3
  obtain ⟨A1, b1, _⟩ := h.r1
  obtain ⟨A2, b2, _⟩ := h.r2
  obtain ⟨A3, b3, _⟩ := h.r3
  exact ⟨ty _ _ _ _ _ _ h.bk b1 (by decide), ty _ _ _ _ _ _ h.bk b2 (by decide), ty _ _ _ _ _ _ h.bk b3 (by decide), ty _ _ _ _ _ _ b1 b3 (by decide), ty _ _ _ _ _ _ b2 b3 (by decide)⟩
/-- The bytes lie apart from the books. -/
theorem own_notS (h : MB w x c1 c2 c3 base m wv Z) {b n : Nat} {v : Value} {xs : List Value} (o : w.ownsRow b 5 1 v n xs) : ∀ k, v.ownBlock = some k → ¬ KS x c1 c2 c3 k := by
  intro k hk hS
  rcases o.2 with ⟨rfl, _⟩ | ⟨g, cap, cur, rfl, _, hh, _⟩
  · cases hk
  obtain rfl : g = k := Option.some.inj hk
  have ty : ∀ (B : Array Value) (T : TypeId), w.heap[g]? = some (.cells B T (0, 0)) → 5 = T := fun B T hb => by
    rw [hh] at hb
    have e2 := Option.some.inj hb
    injection e2
  obtain ⟨A1, b1, _⟩ := h.r1
  obtain ⟨A2, b2, _⟩ := h.r2
  obtain ⟨A3, b3, _⟩ := h.r3
  rcases hS with rfl | rfl | rfl | rfl
  · exact absurd (ty _ _ h.bk) (by decide)
  · exact absurd (ty _ _ b1) (by decide)
  · exact absurd (ty _ _ b2) (by decide)
  · exact absurd (ty _ _ b3) (by decide)
theorem off_notS (h : MB w x c1 c2 c3 base m wv Z) {g : Nat} {c : Array Value} {fr : Nat × Nat} (hb : w.heap[g]? = some (.cells c 69 fr)) : ¬ KS x c1 c2 c3 g := by
  intro hS
  have ty : ∀ (B : Array Value) (T : TypeId), w.heap[g]? = some (.cells B T (0, 0)) → 69 = T := fun B T hb' => by
    rw [hb] at hb'
    have e2 := Option.some.inj hb'
    injection e2
  obtain ⟨A1, b1, _⟩ := h.r1
  obtain ⟨A2, b2, _⟩ := h.r2
  obtain ⟨A3, b3, _⟩ := h.r3
  rcases hS with rfl | rfl | rfl | rfl
  · exact absurd (ty _ _ h.bk) (by decide)
  · exact absurd (ty _ _ b1) (by decide)
  · exact absurd (ty _ _ b2) (by decide)
  · exact absurd (ty _ _ b3) (by decide)
theorem MB.below (h : MB w x c1 c2 c3 base m wv Z) (hb : Below w.heap.size w w') : MB w' x c1 c2 c3 base m wv Z :=
  ⟨(hb.block x (Array.getElem?_eq_some_iff.1 h.bk).1).trans h.bk, h.r1.same (hb.block _ h.r1.lt), h.r2.same (hb.block _ h.r2.lt), h.r3.same (hb.block _ h.r3.lt), h.ne, h.lo, h.zs, h.of.below hb, fun z hz => owns_below (h.ow z hz) hb⟩
theorem MB.cells (h : MB w x c1 c2 c3 base m wv Z) : w.cell? ⟨x, 0, none⟩ = some (.bool m.srv) ∧ w.cell? ⟨x, 1, none⟩ = some (.int .i64 (m.ad : Int)) ∧ w.cell? ⟨x, 2, none⟩ = some (.slice (some ⟨c1, 0, none⟩) 256 256) ∧ w.cell? ⟨x, 3, none⟩ = some (.slice (some ⟨c2, 0, none⟩) 256 256) ∧ w.cell? ⟨x, 4, none⟩ = some (.slice (some ⟨c3, 0, none⟩) 256 256) ∧ w.cell? ⟨x, 5, none⟩ = some wv :=
  ⟨(bk_cell h.bk 0).trans rfl, (bk_cell h.bk 1).trans rfl, (bk_cell h.bk 2).trans rfl, (bk_cell h.bk 3).trans rfl, (bk_cell h.bk 4).trans rfl, (bk_cell h.bk 5).trans rfl⟩
/-- A store into the paths' own block. -/
theorem MB.setX (h : MB w x c1 c2 c3 base m wv Z) (i : Nat) (u : Value) {m' : PX} {wv' : Value} (hc : (#[.bool m.srv, .int .i64 (m.ad : Int), .slice (some ⟨c1, 0, none⟩) 256 256, .slice (some ⟨c2, 0, none⟩) 256 256, .slice (some ⟨c3, 0, none⟩) 256 256, wv] : Array Value).setIfInBounds i u = #[.bool m'.srv, .int .i64 (m'.ad : Int), .slice (some ⟨c1, 0, none⟩) 256 256, .slice (some ⟨c2, 0, none⟩) 256 256, .slice (some ⟨c3, 0, none⟩) 256 256, wv'])
    (e1 : m'.cm = m.cm) (e2 : m'.st = m.st) (e3 : m'.va = m.va) {Z' : List ((List Int × Nat) × Value)} (hz : Z'.map (·.1) = m'.ws) (ho : OffR 69 2 w base wv' (Z'.map zrow)) (hw : ∀ z ∈ Z', w.ownsRow base 5 1 z.2 z.1.1.length (z.1.1.map (Value.int .u8))) : MB (w.setCell ⟨x, i, none⟩ u) x c1 c2 c3 base m' wv' Z' := by
  obtain ⟨n1, n2, n3, n4, n5⟩ := h.x12
  refine ⟨by rw [bk_set h.bk i u, hc], by rw [e1]; exact h.r1.same (bk_other (Ne.symm n1) i u), by rw [e2]; exact h.r2.same (bk_other (Ne.symm n2) i u), by rw [e3]; exact h.r3.same (bk_other (Ne.symm n3) i u), h.ne, h.lo, hz, ho.set h.bk (by decide), fun z hz' => ?_⟩
  have o := hw z hz'
  exact own_setT o h.bk (by decide)
theorem MB.setC (h : MB w x c1 c2 c3 base m wv Z) (k : Nat) (v : Int) : MB (w.setCell ⟨c1, k, none⟩ (.int .i64 v)) x c1 c2 c3 base { m with cm := updF m.cm k v } wv Z := by
  obtain ⟨n1, n2, n3, n4, n5⟩ := h.x12
  obtain ⟨A, b, _⟩ := h.r1
  refine ⟨(bk_other n1 k _).trans h.bk, ?_, h.r2.same (bk_other (Ne.symm h.ne) k _), h.r3.same (bk_other (Ne.symm n4) k _), h.ne, h.lo, h.zs, h.of.set b (by decide), fun z hz => own_setT (h.ow z hz) b (by decide)⟩
  have t := h.r1.set k (.int .i64 v)
  rw [show updF (fun k => Value.int .i64 (m.cm k)) k (.int .i64 v) = fun j => Value.int .i64 (updF m.cm k v j) from funext fun j => by unfold updF; split <;> rfl] at t
  exact t
theorem MB.setS (h : MB w x c1 c2 c3 base m wv Z) (k : Nat) (v : Int) : MB (w.setCell ⟨c2, k, none⟩ (.int .i64 v)) x c1 c2 c3 base { m with st := updF m.st k v } wv Z := by
  obtain ⟨n1, n2, n3, n4, n5⟩ := h.x12
  obtain ⟨A, b, _⟩ := h.r2
  refine ⟨(bk_other n2 k _).trans h.bk, h.r1.same (bk_other h.ne k _), ?_, h.r3.same (bk_other (Ne.symm n5) k _), h.ne, h.lo, h.zs, h.of.set b (by decide), fun z hz => own_setT (h.ow z hz) b (by decide)⟩
  have t := h.r2.set k (.int .i64 v)
  rw [show updF (fun k => Value.int .i64 (m.st k)) k (.int .i64 v) = fun j => Value.int .i64 (updF m.st k v j) from funext fun j => by unfold updF; split <;> rfl] at t
  exact t
theorem MB.setV (h : MB w x c1 c2 c3 base m wv Z) (k : Nat) (v : Bool) : MB (w.setCell ⟨c3, k, none⟩ (.bool v)) x c1 c2 c3 base { m with va := updF m.va k v } wv Z := by
  obtain ⟨n1, n2, n3, n4, n5⟩ := h.x12
  obtain ⟨A, b, _⟩ := h.r3
  refine ⟨(bk_other n3 k _).trans h.bk, h.r1.same (bk_other n4 k _), h.r2.same (bk_other n5 k _), ?_, h.ne, h.lo, h.zs, h.of.set b (by decide), fun z hz => own_setT (h.ow z hz) b (by decide)⟩
  have t := h.r3.set k (.bool v)
  rw [show updF (fun k => Value.bool (m.va k)) k (.bool v) = fun j => Value.bool (updF m.va k v j) from funext fun j => by unfold updF; split <;> rfl] at t
  exact t
end
set_option maxRecDepth 20000 in
set_option maxHeartbeats 2000000 in
theorem mayM (x c1 c2 c3 base : Nat) (m : PX) (wv : Value) (Z : List ((List Int × Nat) × Value)) (i : Nat) (w : World) (h : MB w x c1 c2 c3 base m wv Z) (hI : PXI i m) (hi : i ≤ 300) :
    Calls Try.prog 15 #[.pointer (some ⟨x, 0, none⟩)] w fun e w' => e = .returned (.int .i64 m.may) ∧ ∃ n, w' = w.drewN n := by
  obtain ⟨d0, d1, d2, d3, d4, d5⟩ := h.cells
  have ha := hI.ad
  have v3 := h.r3.cell m.ad ha
  have v1 := h.r1.cell m.ad ha
  have v2 := h.r2.cell m.ad ha
  have q1 := hI.cm m.ad
  have q2 := hI.st m.ad
  unfold PX.may
  generalize m.cm m.ad = a at *
  generalize m.st m.ad = b at *
  generalize m.va m.ad = t at *
  generalize m.ad = ad at *
  have hb : (ad : Int) < 256 := by omega
  have q3 : a ≤ 600000 := by omega
  have q4 : b ≤ 600000 := by omega
  have q5 := q1.1
  have q6 := q2.1
  clear h hI q1 q2 d0 d5
  cases t
  · go_enter Try.func15, Try.ntmps15
    go_wp2_with fail
    go_quiet (fail)
    go_wp2_with fail
    go_quiet (fail)
    go_wp2_with fail
    go_ret
    exact ⟨rfl, _, rfl⟩
  · go_enter Try.func15, Try.ntmps15
    go_wp2_with fail
    go_quiet (fail)
    go_wp2_with fail
    go_ret
    exact ⟨rfl, _, rfl⟩
end Go.Proofs.Ytdoglkjhmaiknaa

namespace Go.Proofs.Ytdoglkjhmaiknaa
open Go.RowKit
set_option linter.unusedVariables false
set_option linter.unusedSimpArgs false

theorem len8 {D : List Int} (h : D.length = 8) : ∃ x0 x1 x2 x3 x4 x5 x6 x7, D = [x0, x1, x2, x3, x4, x5, x6, x7] := by
  match D, h with
  | [x0, x1, x2, x3, x4, x5, x6, x7], _ => exact ⟨x0, x1, x2, x3, x4, x5, x6, x7, rfl⟩
theorem infoChal : (Try.prog.info? 74).map (fun i => (i.zero, i.size, i.bytes)) = some (some (.agg #[.int .u8 0, .int .u8 0, .int .u8 0, .int .u8 0, .int .u8 0, .int .u8 0, .int .u8 0, .int .u8 0, .int .i64 0]), 9, 16) := by kernel_rfl
theorem wrow_flat (ws : List (List Int × Nat)) (h : ∀ c ∈ ws, c.1.length = 8) : FlatK 9 (ws.map wrow) := fun x hx => by
  obtain ⟨c, hc, rfl⟩ := List.mem_map.1 hx
  refine ⟨by unfold wrow; simp [h c hc], fun v hv => ?_⟩
  unfold wrow at hv
  rcases List.mem_append.1 hv with z | z
  · obtain ⟨y, _, rfl⟩ := List.mem_map.1 z; rfl
  · have : v = .int .i64 (c.2 : Int) := by simpa using z
    rw [this]; rfl
theorem PB.chg {S : Nat → Prop} {w w' : World} {g base : Nat} {m : PX} {wv : Value} (h : PB w g m wv) (hc : ChS S 74 base w w') (hs : ¬ S g) : PB w' g m wv := by
  obtain ⟨cs, b, r⟩ := h
  exact ⟨cs, hc.bk b (Or.inr ⟨hs, by decide⟩), r⟩
theorem OffR.full {T : TypeId} {K : Nat} {w : World} {base : Nat} {v : Value} {L : List (List Value)} (h : OffR T K w base v L) (h0 : 0 < L.length) : ∃ g o cap, v = .slice (some ⟨g, o, none⟩) L.length cap ∧ L.length ≤ cap ∧ cap ≤ maxLen := by
  rcases h with ⟨_, rfl⟩ | ⟨g, o, cap, cur, rfl, _, _, h3, h4, _⟩
  · simp at h0
  · exact ⟨g, o, cap, rfl, h3, h4⟩
theorem PB.drew {w : World} {g : Nat} {m : PX} {wv : Value} (h : PB w g m wv) : PB w.drew g m wv := h
theorem OffR.drew {T : TypeId} {K : Nat} {w : World} {base : Nat} {v : Value} {L : List (List Value)} (h : OffR T K w base v L) : OffR T K w.drew base v L := h
theorem wpush_map (ws : List (List Int × Nat)) (c : List Int × Nat) : (wpush ws c).map wrow = if ws.length < 4 then ws.map wrow ++ [wrow c] else (ws.map wrow ++ [wrow c]).tail := by
  unfold wpush
  split <;> simp [List.map_tail]
set_option maxRecDepth 20000 in
set_option maxHeartbeats 4000000 in
theorem chalI (g base : Nat) (m : PX) (v : Value) (D : List Int) (i : Nat) (w : World) (h : PRep w g base m) (hg : base ≤ g) (hI : PXI i m) (hr : Row w .u8 v D) (hl : D.length ≤ 1048576) :
    Calls Try.prog 25 #[.pointer (some ⟨g, 0, none⟩), v] w fun e w' => e = .returned (.int .i64 (if D.length ≠ 8 then 1 else 0)) ∧ PDo g base w w' (if D.length ≠ 8 then m else { m with ws := wpush m.ws (D, m.ad) }) := by
  by_cases h8 : D.length = 8
  case neg =>
    rw [if_pos h8, if_pos h8]
    obtain ⟨ao, cp, rfl⟩ := hr.form
    have hne : ((D.length : Int) != 8) = true := by simp; omega
    have HH : Hid _ := h
    clear hr h h8
    generalize D.length = n at *
    go_enter Try.func25, Try.ntmps25
    go_wp2
    go_ret
    exact ⟨rfl, HH.out, ChS.refl _ _ _ _⟩
  rw [if_neg (fun e => e h8), if_neg (fun e => e h8)]
  obtain ⟨x0, x1, x2, x3, x4, x5, x6, x7, rfl⟩ := len8 h8
  obtain ⟨b, off, cap, rfl, hb, hcap, hc⟩ := hr.full (by simp)
  have r0 := hc 0 (by simp)
  have r1 := hc 1 (by simp)
  have r2 := hc 2 (by simp)
  have r3 := hc 3 (by simp)
  have r4 := hc 4 (by simp)
  have r5 := hc 5 (by simp)
  have r6 := hc 6 (by simp)
  have r7 := hc 7 (by simp)
  dsimp only [List.getD, List.getElem?_cons_zero, List.getElem?_cons_succ, Option.getD, Nat.add_zero] at r0 r1 r2 r3 r4 r5 r6 r7
  obtain ⟨wv, hB, hO⟩ := h
  have dw := hB.cw
  have d1 := hB.c1
  have fw := hB.free 770
  obtain ⟨wa, wcp, ew⟩ := hO.form
  obtain ⟨wn, ewn⟩ : ∃ wn, wn = (m.ws.map wrow).length := ⟨_, rfl⟩
  rw [← ewn] at ew
  have hglt := hB.lt
  obtain ⟨ad, ead⟩ : ∃ ad, ad = m.ad := ⟨_, rfl⟩
  rw [← ead] at d1 ⊢
  have HH : Hid _ := And.intro hB (And.intro hO (And.intro ewn (And.intro ead (And.intro hI hg))))
  have hO' := hO
  rw [ew] at hO'
  have hsa : ∀ W : World, (Instr.arrayAt 72 (.slice (some ⟨b, off, none⟩) 8 cap)).run Try.prog W = .ok (.pointer (some ⟨b, off, none⟩)) W := fun W => by simp [Instr.arrayAt, run_underlying Try.underlying72]
  obtain ⟨W1, eW1⟩ : ∃ W1, W1 = (w.alloc (.cells #[.int .u8 x0, .int .u8 x1, .int .u8 x2, .int .u8 x3, .int .u8 x4, .int .u8 x5, .int .u8 x6, .int .u8 x7, .int .i64 (ad : Int)] 74)).drew := ⟨_, rfl⟩
  have bW1 : Below w.heap.size w W1 := by rw [eW1]; exact below_drewN (n := 1) ((Below.refl _ _).alloc (Nat.le_refl _) _)
  have lW1 : GRow 9 W1 (.slice (some ⟨w.heap.size, 0, none⟩) 1 1) [wrow ([x0, x1, x2, x3, x4, x5, x6, x7], ad)] := by rw [eW1]; exact lit_flat w (wrow ([x0, x1, x2, x3, x4, x5, x6, x7], ad)) 74
  have sW1 : base ≤ W1.heap.size := by have := bW1.size; omega
  have HO : Hid _ := And.intro (hO'.below bW1) (And.intro lW1 (And.intro sW1 bW1))
  rw [eW1] at HO
  clear hc hr h8 hl hB hO hO' ewn ead bW1 lW1 sW1 eW1
  subst ew
  go_enter Try.func25, Try.ntmps25
  go_wp2_with fail
  go_cut [] from 8 to 40 (fun wx => ∃ g5 q5 k5, PB wx g m (.slice (some ⟨g5, q5, none⟩) (wn + 1) k5) ∧ OffR 74 9 wx base (.slice (some ⟨g5, q5, none⟩) (wn + 1) k5) (m.ws.map wrow ++ [wrow ([x0, x1, x2, x3, x4, x5, x6, x7], ad)]) ∧ ChS (fun k => k = g) 74 base w wx ∧ wn + 1 ≤ k5 ∧ wn ≤ 4)
  case first =>
    go_region_law (refine step_append_off rfl (.tmp 12) (.tmp 21) 58 74 Try.underlying58 _ 9 16 infoChal rfl (by decide) (by decide) rfl base (.slice wa wn wcp) (m.ws.map wrow) (wrow_flat _ (fun c hc => (HH.out.2.2.2.2.1.wd c hc).1)) rfl HO.out.1 _ [wrow ([x0, x1, x2, x3, x4, x5, x6, x7], ad)] (wrow_flat [([x0, x1, x2, x3, x4, x5, x6, x7], ad)] (by simp)) rfl HO.out.2.1 (Nat.zero_lt_succ _) (by have := HH.out.2.2.2.2.1.wl; rw [List.length_map, List.length_singleton]; omega) HO.out.2.2.1 ?_
                   intro v5 w5 o5 c5
                   have B5 : PB w5 g m (.slice wa wn wcp) := (HH.out.1.chg (S := fun _ => False) (base := base) (ChS.of_below HO.out.2.2.2) (fun e => e)).chg (c5 (fun _ => False)) (fun e => e)
                   obtain ⟨g5, q5, k5, ev, hk5, hm5⟩ := o5.full (by simp)
                   obtain ⟨n5, en5⟩ : ∃ n5, n5 = (List.map wrow m.ws ++ [wrow ([x0, x1, x2, x3, x4, x5, x6, x7], ad)]).length := ⟨_, rfl⟩
                   rw [← en5] at ev hk5
                   have e5 : n5 = wn + 1 := by rw [en5, HH.out.2.2.1, List.length_append]; rfl
                   have hwl : wn ≤ 4 := by have t := HH.out.2.2.1; have t2 := HH.out.2.2.2.2.1.wl; rw [List.length_map] at t; omega
                   have f770 := B5.free 770
                   have y770 := B5.cw
                   have H5 : Hid _ := And.intro o5 (And.intro c5 (And.intro B5 (And.intro e5 ev)))
                   subst ev
                   clear o5 c5 B5 en5 e5)
    all_goals
      go_wp2_with fail
      go_meet
      obtain ⟨o5, c5, B5, e5, ev⟩ := H5.out
      rw [e5] at hk5 o5 ⊢
      exact ⟨g5, q5, k5, B5.setW _ _, B5.off o5, ((ChS.of_below HO.out.2.2.2).trans (c5 _)).setG hg _ _, hk5, hwl⟩
  case rest =>
  obtain ⟨g5, q5, k5, B6, O6, C6, hk5, hwl⟩ := hcut
  clear r0 r1 r2 r3 r4 r5 r6 r7 hsa dw d1 fw HO
  have y7 := B6.cw
  have f7 := B6.free 770
  have hgl := B6.lt
  have hcap5 : k5 ≤ maxLen := by
    obtain ⟨_, _, _, e, _, h4⟩ := O6.full (by simp)
    simp only [Value.slice.injEq] at e
    omega
  have H6 : Hid _ := And.intro B6 (And.intro O6 C6)
  clear B6 O6 C6
  obtain ⟨n6, e6⟩ : ∃ n6, n6 = wn + 1 := ⟨_, rfl⟩
  rw [← e6] at y7 H6 hk5
  by_cases h4 : wn < 4
  · have hmx : max (0 : Int) ((n6 : Int) - 4) = 0 := by omega
    have hk0 : ¬ k5 = 0 := by omega
    have HE : Hid _ := e6
    clear e6
    go_wp2_with fail
    go_region
    go_wp2
    go_ret
    have ead := HH.out.2.2.2.1
    subst ead
    have hwn : m.ws.length < 4 := by have := HH.out.2.2.1; rw [List.length_map] at this; omega
    refine ⟨rfl, ⟨.slice (some ⟨g5, q5, none⟩) n6 k5, (H6.out.1.setW _ _).drew, ?_⟩, (H6.out.2.2.setG hg _ _).drew⟩
    show OffR _ _ _ _ _ ((wpush m.ws _).map wrow)
    rw [wpush_map, if_pos hwn]
    exact (H6.out.1.off H6.out.2.1).drew
  · have hmx : max (0 : Int) ((n6 : Int) - 4) = 1 := by omega
    have hk0 : ¬ k5 = 1 := by omega
    have hk1 : (1 : Int) ≤ (n6 : Int) := by omega
    have HE : Hid _ := e6
    clear e6
    go_wp2_with fail
    go_region
    go_wp2
    go_ret
    have ead := HH.out.2.2.2.1
    subst ead
    have hwn : m.ws.length = wn := by have := HH.out.2.2.1; rw [List.length_map] at this; omega
    have e6 := HE.out
    have O6 := H6.out.2.1
    obtain ⟨c0, L0, ec⟩ : ∃ c0 L0, m.ws = c0 :: L0 := by
      cases hm : m.ws with
      | nil => rw [hm] at hwn; simp at hwn; omega
      | cons c L => exact ⟨c, L, rfl⟩
    rw [ec] at O6
    obtain ⟨g7, q7, ea, en, O7⟩ := OffR.tail (L := L0.map wrow ++ [wrow ([x0, x1, x2, x3, x4, x5, x6, x7], m.ad)]) O6 (by have := HE.out; omega)
    simp only [Option.some.injEq, Addr.mk.injEq] at ea
    obtain ⟨rfl, rfl, -⟩ := ea
    refine ⟨rfl, ⟨.slice (some ⟨g5, q5 + 9, none⟩) (n6 - 1) (k5 - 1), (H6.out.1.setW _ _).drew, ?_⟩, (H6.out.2.2.setG hg _ _).drew⟩
    show OffR _ _ _ _ _ ((wpush m.ws _).map wrow)
    rw [wpush_map, if_neg (by omega), ec]
    have en' : n6 - 1 = (L0.map wrow ++ [wrow ([x0, x1, x2, x3, x4, x5, x6, x7], m.ad)]).length := by rw [en]; omega
    rw [← en'] at O7
    exact (H6.out.1.off O7).drew
end Go.Proofs.Ytdoglkjhmaiknaa

namespace Go.Proofs.Ytdoglkjhmaiknaa
open Go.RowKit
set_option linter.unusedVariables false
set_option linter.unusedSimpArgs false

/-- A clearing within a block of one's own: the places ahead of it and behind it stay. -/
theorem run_clear_off {P : Program} (w : World) (T ty elem : TypeId) (g o n cap K : Nat) (cur : Array Value) (t : TypeId) (i0 : TypeInfo) (z : Value)
    (hu : P.underlying T = some (.slice elem)) (hi : P.info? elem = some i0) (hz : i0.zero = some z) (hK : z.cells.size = K) (hK0 : 0 < K) (h1 : ∀ u ∈ z.cells.toList, u.oneCell' = true)
    (hg : w.heap[g]? = some (.cells cur t (0, 0))) (hfit : o + n * K ≤ cur.size) :
    ∃ w', (Builtin.clear_ #[T] ty #[.slice (some ⟨g, o, none⟩) n cap]).run P w = .ok (.tuple #[]) w' ∧ (∃ cur' : Array Value, w'.heap[g]? = some (.cells cur' t (0, 0)) ∧ cur'.size = cur.size ∧ ∀ i, i < o → cur'[i]? = cur[i]?) ∧ w.grownBy w' (some g) := by
  by_cases h0 : n = 0
  · subst h0
    exact ⟨w, by simp [Builtin.clear_, run_underlying hu], ⟨cur, hg, rfl, fun _ _ => rfl⟩, ⟨rfl, rfl, rfl, Nat.le_refl _, fun _ _ _ => rfl⟩⟩
  obtain ⟨m, rfl⟩ : ∃ m, n = m + 1 := ⟨n - 1, by omega⟩
  obtain ⟨zs, ezs⟩ : ∃ zs, zs = (Builtin.zeroCells z.cells (m + 1)).toList := ⟨_, rfl⟩
  have hl : zs.length = (m + 1) * K := by rw [ezs, Array.length_toList, size_zeroCells, hK]
  have hone : ∀ v ∈ zs, v.oneCell' = true := fun v hv => by
    rw [ezs] at hv
    simp only [Builtin.zeroCells, Array.toList_map, List.mem_map] at hv
    obtain ⟨i, _, rfl⟩ := hv
    have hlt : i % z.cells.size < z.cells.size := Nat.mod_lt _ (by omega)
    rw [getElem!_pos z.cells _ hlt]
    exact h1 _ (by simp)
  have hst := run_storeCells_cells (P := P) g o zs 0 w (fun j hj => by rw [bk_cell hg, Array.getElem?_eq_getElem (by omega)]; rfl) (fun j hj => bk_free hg _) hone
  rw [Nat.add_zero] at hst
  obtain ⟨cur', q1, q2, q3⟩ := heap_setCells g t (0, 0) zs o w cur hg
  refine ⟨w.setCells g o zs, ?_, ⟨cur', q1, q2, fun i hi => ?_⟩, grown_setCells g _ _ w⟩
  · rw [ezs] at hst
    simp [Builtin.clear_, run_underlying hu, zeroValue, typeInfo, hi, hz, hst, ezs]
  · by_cases c : i < cur.size
    · rw [q3 i c, if_neg (by omega)]
    · rw [Array.getElem?_eq_none (by omega), Array.getElem?_eq_none (by omega)]
theorem wpList_clear_off {w : World} {ops : Array Oper} {rest : List Oper} {oo : Oper} {a : Act} {Q : Exit → Act → World → Prop} (hgd : oo.guard = none) (s : Operand) (T elem : TypeId)
    (ho : oo.op = .call { callee := .builtin .clear, args := #[s], argTypes := #[T] })
    (g o n cap K : Nat) (cur : Array Value) (t : TypeId) (z : Value) (B : Nat) (hu : Try.prog.underlying T = some (.slice elem)) (hinfo : (Try.prog.info? elem).map (fun i => (i.zero, i.size, i.bytes)) = some (some z, K, B)) (hK : z.cells.size = K) (hK0 : 0 < K) (h1 : ∀ u ∈ z.cells.toList, u.oneCell' = true)
    (hs : a.eval s = .slice (some ⟨g, o, none⟩) n cap) (hg : w.heap[g]? = some (.cells cur t (0, 0))) (hfit : o + n * K ≤ cur.size)
    (h : ∀ w' cur', w'.heap[g]? = some (.cells cur' t (0, 0)) → cur'.size = cur.size → (∀ i, i < o → cur'[i]? = cur[i]?) → w.grownBy w' (some g) → wpList Try.prog ops Q rest (a.put oo.dst (.tuple #[])) w') : wpList Try.prog ops Q (oo :: rest) a w := by
  obtain ⟨i0, hi, hz0, hz1, hz2⟩ := info_parts hinfo
  refine wpList_plain hgd fun KK hKK => ?_
  obtain ⟨w', hrun, ⟨cur', a1, a2, a3⟩, a4⟩ := run_clear_off (P := Try.prog) w T oo.type elem g o n cap K cur t i0 z hu hi hz0 hK hK0 h1 hg hfit
  unfold Oper.wp
  simp [execOp, ho, resolve, invoke, builtin, hs, hrun, Result.andThen]
  exact hKK _ _ (h w' cur' a1 a2 a3 a4)
/-- The cells of one that waits. -/
theorem wrow9 {c : List Int × Nat} (h : c.1.length = 8) : ∃ x0 x1 x2 x3 x4 x5 x6 x7 : Int, wrow c = [.int .u8 x0, .int .u8 x1, .int .u8 x2, .int .u8 x3, .int .u8 x4, .int .u8 x5, .int .u8 x6, .int .u8 x7, .int .i64 (c.2 : Int)] := by
  obtain ⟨x0, x1, x2, x3, x4, x5, x6, x7, e⟩ := len8 h
  exact ⟨x0, x1, x2, x3, x4, x5, x6, x7, by unfold wrow; rw [e]; rfl⟩
theorem getD_mem {α : Type} (L : List α) (d : α) (k : Nat) (h : k < L.length) : L.getD k d ∈ L := by
  simp [List.getD, h]
def idxR (L : List (List Int × Nat)) (p : List Int × Nat → Bool) : Int := if L.findIdx p < L.length then (L.findIdx p : Int) else -1
set_option maxRecDepth 20000 in
set_option maxHeartbeats 2000000 in
theorem idxI1 (cap : Value) (v : Value) (L : List (List Int × Nat)) (p : List Int × Nat → Bool) (w : World) (hr : GRow 9 w v (L.map wrow)) (hl : L.length ≤ 4) (h8 : ∀ c ∈ L, c.1.length = 8)
    (hC : ∀ c ∈ L, ∀ u : World, Below w.heap.size w u → Calls Try.prog 31 #[.agg (wrow c).toArray, cap] u fun e u' => e = .returned (.bool (p c)) ∧ Below u.heap.size u u') :
    Calls Try.prog 30 #[v, .func (.func 31) #[] #[cap]] w fun e w' => e = .returned (.int .i64 (idxR L p)) ∧ Below w.heap.size w w' := by
  obtain ⟨n, en⟩ : ∃ n, n = L.length := ⟨_, rfl⟩
  have em : (L.map wrow).length = n := by rw [List.length_map, en]
  obtain ⟨ao, cp, ev⟩ := hr.form
  rw [em] at ev
  have HH : Hid _ := And.intro hC (And.intro hr (And.intro en (And.intro em h8)))
  have hln : n ≤ 4 := by omega
  clear hC hr en em h8 hl
  subst ev
  go_enter Try.func30, Try.ntmps30
  go_wp2_with fail
  go_loopg [8] n (fun q x wr => ∃ k : Nat, k ≤ n ∧ q = n - k ∧ x = .int .i64 (k : Int) ∧ (∀ j, j < k → p (L.getD j default) = false) ∧ Below w.heap.size w wr)
  case atStart => exact ⟨0, Nat.zero_le _, rfl, rfl, fun j hj => by omega, Below.refl _ _⟩
  case round =>
    obtain ⟨k, hk, hq, rfl, hno, bw⟩ := hrel
    by_cases hlt : k < n
    · obtain ⟨b2, o2, c2, ev, hbl, hc⟩ := (HH.out.2.1.below bw).at' (by rw [HH.out.2.2.2.1]; omega)
      rw [HH.out.2.2.2.1] at ev hc
      simp only [Value.slice.injEq] at ev
      obtain ⟨rfl, -, rfl⟩ := ev
      have hmem : L.getD k default ∈ L := getD_mem _ _ _ (by have := HH.out.2.2.1; omega)
      obtain ⟨x0, x1, x2, x3, x4, x5, x6, x7, ec⟩ := wrow9 (HH.out.2.2.2.2 _ hmem)
      have hck := hc k hlt
      rw [map_at wrow L default k (by have := HH.out.2.2.1; omega), ec] at hck
      have r0 : wr.cell? ⟨b2, o2 + k * 9, none⟩ = _ := hck 0 (by omega)
      have r1 : wr.cell? ⟨b2, o2 + k * 9 + 1, none⟩ = _ := hck 1 (by omega)
      have r2 : wr.cell? ⟨b2, o2 + k * 9 + 2, none⟩ = _ := hck 2 (by omega)
      have r3 : wr.cell? ⟨b2, o2 + k * 9 + 3, none⟩ = _ := hck 3 (by omega)
      have r4 : wr.cell? ⟨b2, o2 + k * 9 + 4, none⟩ = _ := hck 4 (by omega)
      have r5 : wr.cell? ⟨b2, o2 + k * 9 + 5, none⟩ = _ := hck 5 (by omega)
      have r6 : wr.cell? ⟨b2, o2 + k * 9 + 6, none⟩ = _ := hck 6 (by omega)
      have r7 : wr.cell? ⟨b2, o2 + k * 9 + 7, none⟩ = _ := hck 7 (by omega)
      have r8 : wr.cell? ⟨b2, o2 + k * 9 + 8, none⟩ = _ := hck 8 (by omega)
      dsimp only [List.getElem?_cons_zero, List.getElem?_cons_succ] at r0 r1 r2 r3 r4 r5 r6 r7 r8
      have CL := HH.out.1 _ hmem wr bw
      rw [ec] at CL
      generalize (L.getD k default).2 = a2 at *
      have HC : Hid _ := And.intro CL (And.intro hno bw)
      clear CL hno bw hc hck ec hmem
      cases hp : p (L.getD k default) with
      | true =>
        rw [hp] at HC
        go_wp2_with fail
        go_at_call 31
        refine HC.out.1.mono ?_
        rintro e w2 ⟨rfl, b2'⟩
        have H3 : Hid _ := And.intro b2' True.intro
        clear b2'
        go_wp2_with fail
        go_ret
        have hlt2 : k < L.length := by have := HH.out.2.2.1; omega
        have hf : L.findIdx p = k := (List.findIdx_eq hlt2).2 ⟨by simpa [List.getD, hlt2] using hp, fun j hj => by have := HC.out.2.1 j hj; simpa [List.getD, show j < L.length by omega] using this⟩
        refine ⟨by unfold idxR; rw [hf, if_pos hlt2]; rfl, HC.out.2.2.trans (H3.out.1.mono HC.out.2.2.size)⟩
      | false =>
        rw [hp] at HC
        go_wp2_with fail
        go_at_call 31
        refine HC.out.1.mono ?_
        rintro e w2 ⟨rfl, b2'⟩
        have H3 : Hid _ := And.intro b2' True.intro
        clear b2'
        go_wp2_with fail
        go_roundg (n - (k + 1))
        case measure => omega
        case rel => exact ⟨k + 1, by omega, rfl, by go_num, fun j hj => by
          by_cases hjk : j = k
          · rw [hjk]; exact hp
          · exact HC.out.2.1 j (by omega), HC.out.2.2.trans (H3.out.1.mono HC.out.2.2.size)⟩
    · obtain rfl : k = n := by omega
      have HC : Hid _ := And.intro hno bw
      clear hno bw
      go_wp2_with fail
      go_ret
      have hf : L.findIdx p = L.length := List.findIdx_eq_length.2 (fun x hx => by
        obtain ⟨j, hj, rfl⟩ := List.getElem_of_mem hx
        have := HC.out.1 j (by have := HH.out.2.2.1; omega)
        simpa [List.getD, hj] using this)
      refine ⟨by unfold idxR; rw [hf, if_neg (by omega)]; rfl, HC.out.2⟩
set_option maxRecDepth 20000 in
set_option maxHeartbeats 2000000 in
theorem idxI2 (cap : Value) (v : Value) (L : List (List Int × Nat)) (p : List Int × Nat → Bool) (w : World) (hr : GRow 9 w v (L.map wrow)) (hl : L.length ≤ 4) (h8 : ∀ c ∈ L, c.1.length = 8)
    (hC : ∀ c ∈ L, ∀ u : World, Below w.heap.size w u → Calls Try.prog 33 #[.agg (wrow c).toArray, cap] u fun e u' => e = .returned (.bool (p c)) ∧ Below u.heap.size u u') :
    Calls Try.prog 30 #[v, .func (.func 33) #[] #[cap]] w fun e w' => e = .returned (.int .i64 (idxR L p)) ∧ Below w.heap.size w w' := by
  obtain ⟨n, en⟩ : ∃ n, n = L.length := ⟨_, rfl⟩
  have em : (L.map wrow).length = n := by rw [List.length_map, en]
  obtain ⟨ao, cp, ev⟩ := hr.form
  rw [em] at ev
  have HH : Hid _ := And.intro hC (And.intro hr (And.intro en (And.intro em h8)))
  have hln : n ≤ 4 := by omega
  clear hC hr en em h8 hl
  subst ev
  go_enter Try.func30, Try.ntmps30
  go_wp2_with fail
  go_loopg [8] n (fun q x wr => ∃ k : Nat, k ≤ n ∧ q = n - k ∧ x = .int .i64 (k : Int) ∧ (∀ j, j < k → p (L.getD j default) = false) ∧ Below w.heap.size w wr)
  case atStart => exact ⟨0, Nat.zero_le _, rfl, rfl, fun j hj => by omega, Below.refl _ _⟩
  case round =>
    obtain ⟨k, hk, hq, rfl, hno, bw⟩ := hrel
    by_cases hlt : k < n
    · obtain ⟨b2, o2, c2, ev, hbl, hc⟩ := (HH.out.2.1.below bw).at' (by rw [HH.out.2.2.2.1]; omega)
      rw [HH.out.2.2.2.1] at ev hc
      simp only [Value.slice.injEq] at ev
      obtain ⟨rfl, -, rfl⟩ := ev
      have hmem : L.getD k default ∈ L := getD_mem _ _ _ (by have := HH.out.2.2.1; omega)
      obtain ⟨x0, x1, x2, x3, x4, x5, x6, x7, ec⟩ := wrow9 (HH.out.2.2.2.2 _ hmem)
      have hck := hc k hlt
      rw [map_at wrow L default k (by have := HH.out.2.2.1; omega), ec] at hck
      have r0 : wr.cell? ⟨b2, o2 + k * 9, none⟩ = _ := hck 0 (by omega)
      have r1 : wr.cell? ⟨b2, o2 + k * 9 + 1, none⟩ = _ := hck 1 (by omega)
      have r2 : wr.cell? ⟨b2, o2 + k * 9 + 2, none⟩ = _ := hck 2 (by omega)
      have r3 : wr.cell? ⟨b2, o2 + k * 9 + 3, none⟩ = _ := hck 3 (by omega)
      have r4 : wr.cell? ⟨b2, o2 + k * 9 + 4, none⟩ = _ := hck 4 (by omega)
      have r5 : wr.cell? ⟨b2, o2 + k * 9 + 5, none⟩ = _ := hck 5 (by omega)
      have r6 : wr.cell? ⟨b2, o2 + k * 9 + 6, none⟩ = _ := hck 6 (by omega)
      have r7 : wr.cell? ⟨b2, o2 + k * 9 + 7, none⟩ = _ := hck 7 (by omega)
      have r8 : wr.cell? ⟨b2, o2 + k * 9 + 8, none⟩ = _ := hck 8 (by omega)
      dsimp only [List.getElem?_cons_zero, List.getElem?_cons_succ] at r0 r1 r2 r3 r4 r5 r6 r7 r8
      have CL := HH.out.1 _ hmem wr bw
      rw [ec] at CL
      generalize (L.getD k default).2 = a2 at *
      have HC : Hid _ := And.intro CL (And.intro hno bw)
      clear CL hno bw hc hck ec hmem
      cases hp : p (L.getD k default) with
      | true =>
        rw [hp] at HC
        go_wp2_with fail
        go_at_call 33
        refine HC.out.1.mono ?_
        rintro e w2 ⟨rfl, b2'⟩
        have H3 : Hid _ := And.intro b2' True.intro
        clear b2'
        go_wp2_with fail
        go_ret
        have hlt2 : k < L.length := by have := HH.out.2.2.1; omega
        have hf : L.findIdx p = k := (List.findIdx_eq hlt2).2 ⟨by simpa [List.getD, hlt2] using hp, fun j hj => by have := HC.out.2.1 j hj; simpa [List.getD, show j < L.length by omega] using this⟩
        refine ⟨by unfold idxR; rw [hf, if_pos hlt2]; rfl, HC.out.2.2.trans (H3.out.1.mono HC.out.2.2.size)⟩
      | false =>
        rw [hp] at HC
        go_wp2_with fail
        go_at_call 33
        refine HC.out.1.mono ?_
        rintro e w2 ⟨rfl, b2'⟩
        have H3 : Hid _ := And.intro b2' True.intro
        clear b2'
        go_wp2_with fail
        go_roundg (n - (k + 1))
        case measure => omega
        case rel => exact ⟨k + 1, by omega, rfl, by go_num, fun j hj => by
          by_cases hjk : j = k
          · rw [hjk]; exact hp
          · exact HC.out.2.1 j (by omega), HC.out.2.2.trans (H3.out.1.mono HC.out.2.2.size)⟩
    · obtain rfl : k = n := by omega
      have HC : Hid _ := And.intro hno bw
      clear hno bw
      go_wp2_with fail
      go_ret
      have hf : L.findIdx p = L.length := List.findIdx_eq_length.2 (fun x hx => by
        obtain ⟨j, hj, rfl⟩ := List.getElem_of_mem hx
        have := HC.out.1 j (by have := HH.out.2.2.1; omega)
        simpa [List.getD, hj] using this)
      refine ⟨by unfold idxR; rw [hf, if_neg (by omega)]; rfl, HC.out.2⟩
end Go.Proofs.Ytdoglkjhmaiknaa

namespace Go.Proofs.Ytdoglkjhmaiknaa
open Go.RowKit
set_option linter.unusedVariables false
set_option linter.unusedSimpArgs false

theorem take_idx {α : Type} (L : List α) (p : α → Bool) (h : L.findIdx p < L.length) : (L.take (L.findIdx p + 1)).filter (fun c => !p c) = L.take (L.findIdx p) := by
  rw [← List.take_append_getElem h, List.filter_append]
  have h1 : p L[L.findIdx p] = true := List.findIdx_getElem
  have h2 : (L.take (L.findIdx p)).filter (fun c => !p c) = L.take (L.findIdx p) := by
    rw [List.filter_eq_self]
    intro a ha
    obtain ⟨j, hj, rfl⟩ := List.getElem_of_mem ha
    rw [List.length_take] at hj
    rw [List.getElem_take]
    have := List.not_of_lt_findIdx (p := p) (xs := L) (show j < L.findIdx p by omega)
    simp [this]
  rw [h2]
  simp [h1]
theorem filter_none {α : Type} (L : List α) (p : α → Bool) (h : ¬ L.findIdx p < L.length) : L.filter (fun c => !p c) = L := by
  rw [List.filter_eq_self]
  have he : L.findIdx p = L.length := by have := List.findIdx_le_length (p := p) (xs := L); omega
  intro a ha
  have := List.findIdx_eq_length.1 he a ha
  simp [this]
theorem chalOne : ∀ u ∈ (Value.agg #[.int .u8 0, .int .u8 0, .int .u8 0, .int .u8 0, .int .u8 0, .int .u8 0, .int .u8 0, .int .u8 0, .int .i64 0]).cells.toList, u.oneCell' = true := by
  intro u hu
  have h : u = .int .u8 0 ∨ u = .int .i64 0 := by simpa [Value.cells] using hu
  rcases h with rfl | rfl <;> rfl
/-- Amid a deletion: i are kept of the first j. -/
structure DelJ (L : List (List Int × Nat)) (p : List Int × Nat → Bool) (g o cap base : Nat) (w wr : World) (i j : Nat) (cur : Array Value) : Prop where
  bk : wr.heap[g]? = some (.cells cur 74 (0, 0))
  sz : cur.size = o + cap * 9
  lo : ∀ k f, k < i → f < 9 → cur[o + (k * 9 + f)]? = ((((L.take j).filter (fun c => !p c)).map wrow).getD k [])[f]?
  hi : ∀ k f, j ≤ k → k < L.length → f < 9 → cur[o + (k * 9 + f)]? = ((L.map wrow).getD k [])[f]?
  le : i = ((L.take j).filter (fun c => !p c)).length
  ij : i < j
  jn : j ≤ L.length
  ch : ChS (fun _ => False) 74 base w wr
section
variable {L : List (List Int × Nat)} {p : List Int × Nat → Bool} {g o cap base : Nat} {w wr w' : World} {i j : Nat} {cur : Array Value}
theorem DelJ.below (h : DelJ L p g o cap base w wr i j cur) (hb : Below wr.heap.size wr w') : DelJ L p g o cap base w w' i j cur :=
  ⟨(hb.block g (Array.getElem?_eq_some_iff.1 h.bk).1).trans h.bk, h.sz, h.lo, h.hi, h.le, h.ij, h.jn, h.ch.trans (ChS.of_below hb)⟩
theorem DelJ.gone (h : DelJ L p g o cap base w wr i j cur) (hj : j < L.length) (hp : p (L.getD j default) = true) : DelJ L p g o cap base w wr i (j + 1) cur := by
  have e : (L.take (j + 1)).filter (fun c => !p c) = (L.take j).filter (fun c => !p c) := by
    have hp' : p L[j] = true := by simpa [List.getD, hj] using hp
    rw [← List.take_append_getElem hj, List.filter_append]
    simp [hp']
  exact ⟨h.bk, h.sz, fun k f hk hf => by rw [e]; exact h.lo k f hk hf, fun k f h1 h2 hf => h.hi k f (by omega) h2 hf, by rw [e]; exact h.le, by have := h.ij; omega, hj, h.ch⟩
theorem DelJ.kept (h : DelJ L p g o cap base w wr i j cur) (hj : j < L.length) (hp : p (L.getD j default) = false) (hg : base ≤ g) (hc : L.length ≤ cap) (h9 : (wrow (L.getD j default)).length = 9) : ∃ cur', DelJ L p g o cap base w (wr.setCells g (o + i * 9) (wrow (L.getD j default))) (i + 1) (j + 1) cur' := by
  have e : (L.take (j + 1)).filter (fun c => !p c) = (L.take j).filter (fun c => !p c) ++ [L.getD j default] := by
    have hp' : p L[j] = false := by simpa [List.getD, hj] using hp
    rw [← List.take_append_getElem hj, List.filter_append]
    simp [hp', List.getD, hj]
  obtain ⟨cur', q1, q2, q3⟩ := heap_setCells g 74 (0, 0) (wrow (L.getD j default)) (o + i * 9) wr cur h.bk
  have hij := h.ij
  have hsz := h.sz
  have bnd : ∀ k f, k < L.length → f < 9 → o + (k * 9 + f) < cur.size := fun k f hk hf => by rw [hsz]; omega
  refine ⟨cur', q1, by rw [q2]; exact h.sz, fun k f hk hf => ?_, fun k f h1 h2 hf => ?_, ?_, by omega, hj, h.ch.trans (ChS.of_grown (grown_setCells g _ _ _) (fun k hk => by obtain rfl : g = k := Option.some.inj hk; exact ⟨hg, _, _, h.bk⟩))⟩
  · rw [q3 _ (bnd k f (by omega) hf), e, List.map_append]
    have hl : (((L.take j).filter (fun c => !p c)).map wrow).length = i := by rw [List.length_map]; exact h.le.symm
    by_cases c : k = i
    · subst c
      rw [if_pos ⟨by omega, by rw [h9]; omega⟩, show o + (k * 9 + f) - (o + k * 9) = f by omega]
      simp [List.getD, List.getElem?_append_right (show (((L.take j).filter (fun c => !p c)).map wrow).length ≤ k by omega), hl]
    · rw [if_neg (by omega), h.lo k f (by omega) hf]
      simp only [List.getD]
      rw [List.getElem?_append_left (by omega)]
  · rw [q3 _ (bnd k f h2 hf), if_neg (by rw [h9]; omega)]
    exact h.hi k f (by omega) h2 hf
  · rw [e, List.length_append, ← h.le]; rfl
theorem DelJ.done (h : DelJ L p g o cap base w wr i L.length cur) {cur' : Array Value} (hg : base ≤ g) (hcm : cap ≤ maxLen) (hc : L.length ≤ cap) (b : w'.heap[g]? = some (.cells cur' 74 (0, 0))) (s : cur'.size = cur.size) (same : ∀ k, k < o + i * 9 → cur'[k]? = cur[k]?) (gr : wr.grownBy w' (some g)) :
    OffR 74 9 w' base (.slice (some ⟨g, o, none⟩) i cap) ((L.filter (fun c => !p c)).map wrow) ∧ ChS (fun _ => False) 74 base w w' := by
  have hl := h.le
  have hij := h.ij
  have hlo := h.lo
  rw [List.take_length] at hl hlo
  refine ⟨Or.inr ⟨g, o, cap, cur', by rw [List.length_map, ← hl], hg, b, by rw [List.length_map, ← hl]; omega, hcm, by rw [s, h.sz], fun k f hk hf => ?_⟩, h.ch.trans (ChS.of_grown gr (fun k hk => by obtain rfl : g = k := Option.some.inj hk; exact ⟨hg, _, _, h.bk⟩))⟩
  rw [List.length_map, ← hl] at hk
  rw [same _ (by omega)]
  exact hlo k f hk hf
end
set_option maxRecDepth 20000 in
set_option maxHeartbeats 4000000 in
theorem delI (capv : Value) (v : Value) (L : List (List Int × Nat)) (p : List Int × Nat → Bool) (base : Nat) (w : World) (hO : OffR 74 9 w base v (L.map wrow)) (hl : L.length ≤ 4) (h8 : ∀ c ∈ L, c.1.length = 8)
    (hC : ∀ c ∈ L, ∀ u : World, ChS (fun _ => False) 74 base w u → Calls Try.prog 33 #[.agg (wrow c).toArray, capv] u fun e u' => e = .returned (.bool (p c)) ∧ Below u.heap.size u u') :
    Calls Try.prog 32 #[v, .func (.func 33) #[] #[capv]] w fun e w' => ∃ v', e = .returned v' ∧ OffR 74 9 w' base v' ((L.filter (fun c => !p c)).map wrow) ∧ ChS (fun _ => False) 74 base w w' := by
  have IX := idxI2 capv v L p w hO.row hl h8 (fun c hc u hu => hC c hc u (ChS.of_below hu))
  obtain ⟨ao, cp, ev⟩ := hO.form
  obtain ⟨n, en⟩ : ∃ n, n = L.length := ⟨_, rfl⟩
  rw [List.length_map, ← en] at ev
  have hn4 : n ≤ 4 := by omega
  by_cases hx : L.findIdx p < L.length
  case neg =>
    have er : idxR L p = -1 := by unfold idxR; rw [if_neg hx]
    have ef := filter_none L p hx
    rw [er] at IX
    have HH : Hid _ := And.intro IX (And.intro hO ef)
    clear IX hO er ef hC hx h8 hl en
    subst ev
    go_enter Try.func32, Try.ntmps32
    go_wp2_with fail
    go_at_call 30
    refine HH.out.1.mono ?_
    rintro e w1 ⟨rfl, b1⟩
    have H1 : Hid _ := And.intro b1 True.intro
    clear b1
    go_wp2_with fail
    go_ret
    exact ⟨_, rfl, by rw [HH.out.2.2]; exact HH.out.2.1.below H1.out.1, ChS.of_below H1.out.1⟩
  case pos =>
  obtain ⟨ix, eix⟩ : ∃ ix, ix = L.findIdx p := ⟨_, rfl⟩
  have er : idxR L p = (ix : Int) := by unfold idxR; rw [if_pos hx, eix]
  rw [er] at IX
  rcases id hO with ⟨_, h0⟩ | ⟨g, o, cap, cur, e, hg, hb, hnc, hcm, hsz, hcl⟩
  · exact absurd (by simpa using h0 : L = []) (by intro z; subst z; exact absurd hx (by simp))
  rw [List.length_map] at e hnc hcl
  have J0 : ∀ w1 : World, Below w.heap.size w w1 → DelJ L p g o cap base w w1 ix (ix + 1) cur := fun w1 b1 =>
    ⟨(b1.block g (Array.getElem?_eq_some_iff.1 hb).1).trans hb, hsz, fun k f hk hf => by
      rw [eix, take_idx L p hx, hcl k f (by omega) hf]
      have hk2 : k < L.length := by omega
      simp [List.getD, hk2, show k < L.findIdx p by omega], fun k f h1 h2 hf => hcl k f h2 hf, by rw [eix, take_idx L p hx, List.length_take]; omega, by omega, by omega, ChS.of_below b1⟩
  have hixn : ix + 1 ≤ n := by omega
  have hne : ((ix : Int) == -1) = false := by simp
  rw [← en] at e
  have ev2 := e
  rw [ev] at ev2
  simp only [Value.slice.injEq] at ev2
  obtain ⟨rfl, -, rfl⟩ := ev2
  have hncp : n ≤ cp := by omega
  have HH : Hid _ := And.intro IX (And.intro J0 (And.intro hC (And.intro h8 (And.intro en (And.intro hg hcm)))))
  clear IX J0 hC h8 hl en hg hO hb hcl hsz e er eix hx hnc hcm
  subst ev
  go_enter Try.func32, Try.ntmps32
  go_wp2_with fail
  go_at_call 30
  refine HH.out.1.mono ?_
  rintro e w1 ⟨rfl, b1⟩
  have H1 : Hid _ := And.intro (HH.out.2.1 w1 b1) True.intro
  clear b1
  go_wp2_with fail
  go_loopg [5, 6, 7] (n - (ix + 1)) (fun r x y z wr => ∃ (i j : Nat) (cur : Array Value), r = n - j ∧ x = .int .i64 (i : Int) ∧ y = .int .i64 (j : Int) ∧ DelJ L p g o cp base w wr i j cur)
  case atStart => exact ⟨ix, ix + 1, cur, rfl, rfl, by go_num, H1.out.1⟩
  case round =>
    obtain ⟨i, j, cur, hq, rfl, rfl, J⟩ := hrel
    have hij := J.ij
    have hjn : j ≤ n := by have := J.jn; have := HH.out.2.2.2.2.1; omega
    by_cases hlt : j < n
    · have hlt2 : j < L.length := by have := HH.out.2.2.2.2.1; omega
      have hmem : L.getD j default ∈ L := getD_mem _ _ _ hlt2
      obtain ⟨x0, x1, x2, x3, x4, x5, x6, x7, ec⟩ := wrow9 (HH.out.2.2.2.1 _ hmem)
      have r0 : wr.cell? ⟨g, o + j * 9, none⟩ = some (.int .u8 x0) := by rw [bk_cell J.bk]; have t := J.hi j 0 (Nat.le_refl _) hlt2 (by omega); rw [map_at wrow L default j hlt2, ec] at t; exact t
      have r1 : wr.cell? ⟨g, o + j * 9 + 1, none⟩ = some (.int .u8 x1) := by rw [bk_cell J.bk]; have t := J.hi j 1 (Nat.le_refl _) hlt2 (by omega); rw [map_at wrow L default j hlt2, ec] at t; exact t
      have r2 : wr.cell? ⟨g, o + j * 9 + 2, none⟩ = some (.int .u8 x2) := by rw [bk_cell J.bk]; have t := J.hi j 2 (Nat.le_refl _) hlt2 (by omega); rw [map_at wrow L default j hlt2, ec] at t; exact t
      have r3 : wr.cell? ⟨g, o + j * 9 + 3, none⟩ = some (.int .u8 x3) := by rw [bk_cell J.bk]; have t := J.hi j 3 (Nat.le_refl _) hlt2 (by omega); rw [map_at wrow L default j hlt2, ec] at t; exact t
      have r4 : wr.cell? ⟨g, o + j * 9 + 4, none⟩ = some (.int .u8 x4) := by rw [bk_cell J.bk]; have t := J.hi j 4 (Nat.le_refl _) hlt2 (by omega); rw [map_at wrow L default j hlt2, ec] at t; exact t
      have r5 : wr.cell? ⟨g, o + j * 9 + 5, none⟩ = some (.int .u8 x5) := by rw [bk_cell J.bk]; have t := J.hi j 5 (Nat.le_refl _) hlt2 (by omega); rw [map_at wrow L default j hlt2, ec] at t; exact t
      have r6 : wr.cell? ⟨g, o + j * 9 + 6, none⟩ = some (.int .u8 x6) := by rw [bk_cell J.bk]; have t := J.hi j 6 (Nat.le_refl _) hlt2 (by omega); rw [map_at wrow L default j hlt2, ec] at t; exact t
      have r7 : wr.cell? ⟨g, o + j * 9 + 7, none⟩ = some (.int .u8 x7) := by rw [bk_cell J.bk]; have t := J.hi j 7 (Nat.le_refl _) hlt2 (by omega); rw [map_at wrow L default j hlt2, ec] at t; exact t
      have r8 : wr.cell? ⟨g, o + j * 9 + 8, none⟩ = some (.int .i64 ((L.getD j default).2 : Int)) := by rw [bk_cell J.bk]; have t := J.hi j 8 (Nat.le_refl _) hlt2 (by omega); rw [map_at wrow L default j hlt2, ec] at t; exact t
      have hgl : g < wr.heap.size := (Array.getElem?_eq_some_iff.1 J.bk).1
      obtain ⟨a2, ea2⟩ : ∃ a2, a2 = (L.getD j default).2 := ⟨_, rfl⟩
      rw [← ea2] at r8 ec
      obtain ⟨W1, eW1⟩ : ∃ W1, W1 = wr.alloc (.cells #[.int .u8 x0, .int .u8 x1, .int .u8 x2, .int .u8 x3, .int .u8 x4, .int .u8 x5, .int .u8 x6, .int .u8 x7, .int .i64 (a2 : Int)] 74) := ⟨_, rfl⟩
      have bW1 : Below wr.heap.size wr W1 := by rw [eW1]; exact (Below.refl _ _).alloc (Nat.le_refl _) _
      have hnew : W1.heap[wr.heap.size]? = some (.cells #[.int .u8 x0, .int .u8 x1, .int .u8 x2, .int .u8 x3, .int .u8 x4, .int .u8 x5, .int .u8 x6, .int .u8 x7, .int .i64 (a2 : Int)] 74 (0, 0)) := by rw [eW1]; exact heap_alloc_new _ _
      have CL := HH.out.2.2.1 _ hmem W1 (J.ch.trans (ChS.of_below bW1))
      have J1 := J.below bW1
      have h9 : (wrow (L.getD j default)).length = 9 := by rw [ec]; rfl
      rw [ec] at CL
      have HC : Hid _ := And.intro CL (And.intro J1 (And.intro hnew (And.intro h9 ec)))
      rw [eW1] at HC
      clear CL J1 hnew J bW1 ec hmem h9 eW1 ea2
      cases hp : p (L.getD j default) with
      | true =>
        rw [hp] at HC
        go_wp2_with fail
        go_at_call 33
        refine HC.out.1.mono ?_
        rintro e w2 ⟨rfl, b2⟩
        have H3 : Hid _ := And.intro (HC.out.2.1.below b2) True.intro
        clear b2
        go_wp2_with fail
        go_roundg (n - (j + 1))
        case measure => omega
        case rel => exact ⟨i, j + 1, cur, rfl, rfl, by go_num, H3.out.1.gone hlt2 hp⟩
      | false =>
        rw [hp] at HC
        go_wp2_with fail
        go_at_call 33
        refine HC.out.1.mono ?_
        rintro e w2 ⟨rfl, b2⟩
        have J2 := HC.out.2.1.below b2
        have hn2 : w2.heap[wr.heap.size]? = _ := (b2.block wr.heap.size (Array.getElem?_eq_some_iff.1 HC.out.2.2.1).1).trans HC.out.2.2.1
        have hin : i < n := by omega
        have bnd : ∀ f, f < 9 → ∃ z, cur[o + (i * 9 + f)]? = some z := fun f hf => ⟨_, Array.getElem?_eq_getElem (by have := J2.sz; omega)⟩
        obtain ⟨z0, ez0⟩ := bnd 0 (by omega)
        have s0 : w2.cell? ⟨g, o + i * 9, none⟩ = some z0 := by rw [bk_cell J2.bk]; exact ez0
        have t0 : w2.frozen? ⟨g, o + i * 9, none⟩ = false := bk_free J2.bk _
        have v0 : w2.cell? ⟨wr.heap.size, 0, none⟩ = some (.int .u8 x0) := by rw [bk_cell hn2]; rfl
        obtain ⟨z1, ez1⟩ := bnd 1 (by omega)
        have s1 : w2.cell? ⟨g, o + i * 9 + 1, none⟩ = some z1 := by rw [bk_cell J2.bk]; exact ez1
        have t1 : w2.frozen? ⟨g, o + i * 9 + 1, none⟩ = false := bk_free J2.bk _
        have v1 : w2.cell? ⟨wr.heap.size, 1, none⟩ = some (.int .u8 x1) := by rw [bk_cell hn2]; rfl
        obtain ⟨z2, ez2⟩ := bnd 2 (by omega)
        have s2 : w2.cell? ⟨g, o + i * 9 + 2, none⟩ = some z2 := by rw [bk_cell J2.bk]; exact ez2
        have t2 : w2.frozen? ⟨g, o + i * 9 + 2, none⟩ = false := bk_free J2.bk _
        have v2 : w2.cell? ⟨wr.heap.size, 2, none⟩ = some (.int .u8 x2) := by rw [bk_cell hn2]; rfl
        obtain ⟨z3, ez3⟩ := bnd 3 (by omega)
        have s3 : w2.cell? ⟨g, o + i * 9 + 3, none⟩ = some z3 := by rw [bk_cell J2.bk]; exact ez3
        have t3 : w2.frozen? ⟨g, o + i * 9 + 3, none⟩ = false := bk_free J2.bk _
        have v3 : w2.cell? ⟨wr.heap.size, 3, none⟩ = some (.int .u8 x3) := by rw [bk_cell hn2]; rfl
        obtain ⟨z4, ez4⟩ := bnd 4 (by omega)
        have s4 : w2.cell? ⟨g, o + i * 9 + 4, none⟩ = some z4 := by rw [bk_cell J2.bk]; exact ez4
        have t4 : w2.frozen? ⟨g, o + i * 9 + 4, none⟩ = false := bk_free J2.bk _
        have v4 : w2.cell? ⟨wr.heap.size, 4, none⟩ = some (.int .u8 x4) := by rw [bk_cell hn2]; rfl
        obtain ⟨z5, ez5⟩ := bnd 5 (by omega)
        have s5 : w2.cell? ⟨g, o + i * 9 + 5, none⟩ = some z5 := by rw [bk_cell J2.bk]; exact ez5
        have t5 : w2.frozen? ⟨g, o + i * 9 + 5, none⟩ = false := bk_free J2.bk _
        have v5 : w2.cell? ⟨wr.heap.size, 5, none⟩ = some (.int .u8 x5) := by rw [bk_cell hn2]; rfl
        obtain ⟨z6, ez6⟩ := bnd 6 (by omega)
        have s6 : w2.cell? ⟨g, o + i * 9 + 6, none⟩ = some z6 := by rw [bk_cell J2.bk]; exact ez6
        have t6 : w2.frozen? ⟨g, o + i * 9 + 6, none⟩ = false := bk_free J2.bk _
        have v6 : w2.cell? ⟨wr.heap.size, 6, none⟩ = some (.int .u8 x6) := by rw [bk_cell hn2]; rfl
        obtain ⟨z7, ez7⟩ := bnd 7 (by omega)
        have s7 : w2.cell? ⟨g, o + i * 9 + 7, none⟩ = some z7 := by rw [bk_cell J2.bk]; exact ez7
        have t7 : w2.frozen? ⟨g, o + i * 9 + 7, none⟩ = false := bk_free J2.bk _
        have v7 : w2.cell? ⟨wr.heap.size, 7, none⟩ = some (.int .u8 x7) := by rw [bk_cell hn2]; rfl
        obtain ⟨z8, ez8⟩ := bnd 8 (by omega)
        have s8 : w2.cell? ⟨g, o + i * 9 + 8, none⟩ = some z8 := by rw [bk_cell J2.bk]; exact ez8
        have t8 : w2.frozen? ⟨g, o + i * 9 + 8, none⟩ = false := bk_free J2.bk _
        have v8 : w2.cell? ⟨wr.heap.size, 8, none⟩ = some (.int .i64 (a2 : Int)) := by rw [bk_cell hn2]; rfl
        have H3 : Hid _ := And.intro J2 True.intro
        clear b2 J2 hn2 bnd r0 r1 r2 r3 r4 r5 r6 r7 r8 ez0 ez1 ez2 ez3 ez4 ez5 ez6 ez7 ez8
        go_wp2_with fail
        go_roundg (n - (j + 1))
        case measure => omega
        case rel =>
          obtain ⟨cur', J'⟩ := H3.out.1.kept hlt2 hp HH.out.2.2.2.2.2.1 (by have := HH.out.2.2.2.2.1; omega) HC.out.2.2.2.1
          rw [HC.out.2.2.2.2] at J'
          exact ⟨i + 1, j + 1, cur', rfl, by go_num, by go_num, J'⟩
    · obtain rfl : j = n := by omega
      have hin : i < j := hij
      have hcpi : ¬ cp = i := by omega
      have H2 : Hid _ := And.intro J True.intro
      have hfit : o + i * 9 + (j - i) * 9 ≤ cur.size := by have := J.sz; omega
      have hbk := J.bk
      have HB : Hid _ := And.intro hbk hfit
      clear J hbk hfit
      go_wp2_with (refine wpList_clear_off rfl (.tmp 38) 58 74 rfl g (o + i * 9) (j - i) (cp - i) 9 cur 74 _ 16 Try.underlying58 infoChal rfl (by decide) chalOne rfl HB.out.1 HB.out.2 ?_; intro w5 cur5 k1 k2 k3 k4; have H5 : Hid _ := And.intro k1 (And.intro k2 (And.intro k3 k4)); clear k1 k2 k3 k4)
      go_wp2_with fail
      go_ret
      have en := HH.out.2.2.2.2.1
      have J := H2.out.1
      rw [en] at J
      exact ⟨_, rfl, J.done HH.out.2.2.2.2.2.1 HH.out.2.2.2.2.2.2 (by omega) H5.out.1 H5.out.2.1 H5.out.2.2.1 H5.out.2.2.2⟩
end Go.Proofs.Ytdoglkjhmaiknaa
