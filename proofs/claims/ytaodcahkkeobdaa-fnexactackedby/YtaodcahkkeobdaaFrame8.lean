import Derived.Test.YtaodcahkkeobdaaRng
import Derived.Test.YtaodcahkkeobdaaToBytes
import Derived.Test.YtaodcahkkeobdaaEqBytes
import Derived.Test.YtaodcahkkeobdaaSzBytes
import Derived.Test.YtaodcahkkeobdaaBlocks
import Derived.Laws.Rows
namespace Go.Proofs.Ytaodcahkkeobdaa
open Go.RowKit
set_option linter.unusedVariables false

/-- A frame: four numbers, a bool, two lists of bytes, a list of ranges. -/
structure F8 where
  k : Int
  a : Int
  b : Int
  c : Int
  fin : Bool
  d : List Int
  t : List Int
  r : List (Int × Int)
def F8.small (h : F8) (n : Nat) : Prop := h.d.length ≤ n ∧ h.t.length ≤ n ∧ h.r.length ≤ n
def F8.total (h : F8) : Int := (h.d.length : Int) + (h.t.length : Int) + (h.r.length : Int)
def FRow (w : World) (v : Value) (h : F8) : Prop :=
  ∃ v2 v3 v4, v = .agg #[.int .i64 h.k, .int .i64 h.a, .int .i64 h.b, .int .i64 h.c, .bool h.fin, v2, v3, v4] ∧ Row w .u8 v2 h.d ∧ Row w .u8 v3 h.t ∧ RRow w v4 h.r
theorem FRow.below {w w' : World} {v : Value} {h : F8} (k : FRow w v h) (hb : Below w.heap.size w w') : FRow w' v h := by
  obtain ⟨v2, v3, v4, e, h0, h1, h2⟩ := k
  exact ⟨v2, v3, v4, e, h0.below hb, h1.below hb, h2.below hb⟩
theorem FRow.parts {w : World} {v : Value} {h : F8} (k : FRow w v h) : ∃ (a2 a3 a4 : Option Addr) (p2 p3 p4 : Nat), v = .agg #[.int .i64 h.k, .int .i64 h.a, .int .i64 h.b, .int .i64 h.c, .bool h.fin, .slice a2 h.d.length p2, .slice a3 h.t.length p3, .slice a4 h.r.length p4] ∧ Row w .u8 (.slice a2 h.d.length p2) h.d ∧ Row w .u8 (.slice a3 h.t.length p3) h.t ∧ RRow w (.slice a4 h.r.length p4) h.r := by
  obtain ⟨v2, v3, v4, rfl, q2, q3, q4⟩ := k
  obtain ⟨a2, p2, rfl⟩ := q2.form
  obtain ⟨a3, p3, rfl⟩ := q3.form
  obtain ⟨a4, p4, rfl⟩ := q4.form
  exact ⟨a2, a3, a4, p2, p3, p4, rfl, q2, q3, q4⟩

theorem fsz_fit (v : Value) (h : F8) (l : Int) (w : World) (hr : FRow w v h) (hl0 : 0 ≤ l) (hl1 : l ≤ 9223372036854775807) (hf : h.total ≤ l) :
    Calls Try.prog 14 #[v, .int .i64 l] w fun e w' => e = .returned (.int .i64 (l - h.total)) ∧ Below w.heap.size w w' := by
  have e : l - h.total = l - (h.d.length : Int) - (h.t.length : Int) - (h.r.length : Int) := by unfold F8.total; omega
  rw [e]
  unfold F8.total at hf
  obtain ⟨v2, v3, v4, rfl, r0, r1, r2⟩ := hr
  have WB : Below w.heap.size w (w.alloc (.cells #[.int .i64 h.k, .int .i64 h.a, .int .i64 h.b, .int .i64 h.c, .bool h.fin, v2, v3, v4] 37)) := (Below.refl _ _).alloc (Nat.le_refl _) _
  have h0 := szBytes_fit v2 h.d (l) _ (r0.below WB) (by omega) (by omega)
  have h1 := szBytes_fit v3 h.t (l - (h.d.length : Int)) _ (r1.below WB) (by omega) (by omega)
  have h2 := szRng_fit v4 h.r (l - (h.d.length : Int) - (h.t.length : Int)) _ (r2.below WB) (by omega) (by omega)
  have HW : Hid _ := WB
  clear r0 r1 r2 WB
  generalize h.d.length = n0 at *
  generalize h.t.length = n1 at *
  generalize h.r.length = n2 at *
  go_enter Try.func14, Try.ntmps14
  go_wp2_with fail
  go_at_call 32
  refine h0.mono ?_
  rintro e w1 ⟨rfl, rfl⟩
  go_wp2_with fail
  go_at_call 32
  refine h1.mono ?_
  rintro e w1 ⟨rfl, rfl⟩
  go_wp2_with fail
  go_at_call 5
  refine h2.mono ?_
  rintro e w1 ⟨rfl, rfl⟩
  go_wp2
  go_ret
  exact ⟨rfl, HW.out⟩
theorem fsz_over1 (v : Value) (h : F8) (l : Int) (w : World) (hr : FRow w v h) (hs : h.small 9223372036854775807) (hl0 : 0 ≤ l) (hl1 : l ≤ 9223372036854775807) (c0 : l < (h.d.length : Int)) :
    Calls Try.prog 14 #[v, .int .i64 l] w fun e w' => e = .returned (.int .i64 (-1)) ∧ Below w.heap.size w w' := by
  obtain ⟨v2, v3, v4, rfl, r0, r1, r2⟩ := hr
  obtain ⟨s0, s1, s2⟩ := hs
  have WB : Below w.heap.size w (w.alloc (.cells #[.int .i64 h.k, .int .i64 h.a, .int .i64 h.b, .int .i64 h.c, .bool h.fin, v2, v3, v4] 37)) := (Below.refl _ _).alloc (Nat.le_refl _) _
  have h0 := szBytes_over v2 h.d (l) _ (r0.below WB) s0 (by omega) (by omega)
  have HW : Hid _ := WB
  clear r0 r1 r2 WB
  go_enter Try.func14, Try.ntmps14
  go_wp2_with fail
  go_at_call 32
  refine h0.mono ?_
  rintro e w1 ⟨rfl, rfl⟩
  go_wp2
  go_ret
  exact ⟨rfl, HW.out⟩
theorem fsz_over2 (v : Value) (h : F8) (l : Int) (w : World) (hr : FRow w v h) (hs : h.small 9223372036854775807) (hl0 : 0 ≤ l) (hl1 : l ≤ 9223372036854775807) (c0 : (h.d.length : Int) ≤ l) (c1 : l - (h.d.length : Int) < (h.t.length : Int)) :
    Calls Try.prog 14 #[v, .int .i64 l] w fun e w' => e = .returned (.int .i64 (-1)) ∧ Below w.heap.size w w' := by
  obtain ⟨v2, v3, v4, rfl, r0, r1, r2⟩ := hr
  obtain ⟨s0, s1, s2⟩ := hs
  have WB : Below w.heap.size w (w.alloc (.cells #[.int .i64 h.k, .int .i64 h.a, .int .i64 h.b, .int .i64 h.c, .bool h.fin, v2, v3, v4] 37)) := (Below.refl _ _).alloc (Nat.le_refl _) _
  have h0 := szBytes_fit v2 h.d (l) _ (r0.below WB) (by omega) (by omega)
  have h1 := szBytes_over v3 h.t (l - (h.d.length : Int)) _ (r1.below WB) s1 (by omega) (by omega)
  have HW : Hid _ := WB
  clear r0 r1 r2 WB
  generalize h.d.length = n0 at *
  go_enter Try.func14, Try.ntmps14
  go_wp2_with fail
  go_at_call 32
  refine h0.mono ?_
  rintro e w1 ⟨rfl, rfl⟩
  go_wp2_with fail
  go_at_call 32
  refine h1.mono ?_
  rintro e w1 ⟨rfl, rfl⟩
  go_wp2
  go_ret
  exact ⟨rfl, HW.out⟩
theorem fsz_over3 (v : Value) (h : F8) (l : Int) (w : World) (hr : FRow w v h) (hs : h.small 9223372036854775807) (hl0 : 0 ≤ l) (hl1 : l ≤ 9223372036854775807) (c0 : (h.d.length : Int) ≤ l) (c1 : (h.t.length : Int) ≤ l - (h.d.length : Int)) (c2 : l - (h.d.length : Int) - (h.t.length : Int) < (h.r.length : Int)) :
    Calls Try.prog 14 #[v, .int .i64 l] w fun e w' => e = .returned (.int .i64 (-1)) ∧ Below w.heap.size w w' := by
  obtain ⟨v2, v3, v4, rfl, r0, r1, r2⟩ := hr
  obtain ⟨s0, s1, s2⟩ := hs
  have WB : Below w.heap.size w (w.alloc (.cells #[.int .i64 h.k, .int .i64 h.a, .int .i64 h.b, .int .i64 h.c, .bool h.fin, v2, v3, v4] 37)) := (Below.refl _ _).alloc (Nat.le_refl _) _
  have h0 := szBytes_fit v2 h.d (l) _ (r0.below WB) (by omega) (by omega)
  have h1 := szBytes_fit v3 h.t (l - (h.d.length : Int)) _ (r1.below WB) (by omega) (by omega)
  have h2 := szRng_over v4 h.r (l - (h.d.length : Int) - (h.t.length : Int)) _ (r2.below WB) (by omega) s2 (by omega)
  have HW : Hid _ := WB
  clear r0 r1 r2 WB
  generalize h.d.length = n0 at *
  generalize h.t.length = n1 at *
  go_enter Try.func14, Try.ntmps14
  go_wp2_with fail
  go_at_call 32
  refine h0.mono ?_
  rintro e w1 ⟨rfl, rfl⟩
  go_wp2_with fail
  go_at_call 32
  refine h1.mono ?_
  rintro e w1 ⟨rfl, rfl⟩
  go_wp2_with fail
  go_at_call 5
  refine h2.mono ?_
  rintro e w1 ⟨rfl, rfl⟩
  go_wp2
  go_ret
  exact ⟨rfl, HW.out⟩
theorem fsz_over (v : Value) (h : F8) (l : Int) (w : World) (hr : FRow w v h) (hs : h.small 9223372036854775807) (hl0 : 0 ≤ l) (hl1 : l ≤ 9223372036854775807) (hf : l < h.total) :
    Calls Try.prog 14 #[v, .int .i64 l] w fun e w' => e = .returned (.int .i64 (-1)) ∧ Below w.heap.size w w' := by
  unfold F8.total at hf
  by_cases c0 : (h.d.length : Int) ≤ l
  · by_cases c1 : (h.t.length : Int) ≤ l - (h.d.length : Int)
    · exact fsz_over3 v h l w hr hs hl0 hl1 c0 c1 (by omega)
    · exact fsz_over2 v h l w hr hs hl0 hl1 c0 (by omega)
  · exact fsz_over1 v h l w hr hs hl0 hl1 (by omega)
set_option maxRecDepth 20000 in
set_option maxHeartbeats 1000000 in
theorem eqFrm_same (va vb : Value) (h : F8) (w : World) (ha : FRow w va h) (hb : FRow w vb h) (hs : h.small 1048576) :
    Calls Try.prog 9 #[va, vb] w fun e w' => e = .returned (.bool true) ∧ Below w.heap.size w w' := by
  obtain ⟨k, a, b, c, fin, d, t, r⟩ := h
  obtain ⟨u0, u1, u2, rfl, p0, p1, p2⟩ := ha
  obtain ⟨v0, v1, v2, rfl, q0, q1, q2⟩ := hb
  have WB : ∀ (o1 o2 : Obj) (n : Nat), Below w.heap.size w (((w.alloc o1).alloc o2).drewN n) := fun o1 o2 n => below_drewN (((Below.refl _ _).alloc (Nat.le_refl _) o1).alloc (by simp) o2) n
  have WB0 : ∀ (o1 o2 : Obj), Below w.heap.size w ((w.alloc o1).alloc o2) := fun o1 o2 => ((Below.refl _ _).alloc (Nat.le_refl _) o1).alloc (by simp) o2
  have HH : Hid _ := And.intro (And.intro p0 (And.intro p1 p2)) (And.intro (And.intro q0 (And.intro q1 q2)) (And.intro hs (And.intro WB WB0)))
  clear p0 p1 p2 q0 q1 q2 hs WB WB0
  dsimp only at HH ⊢
  have ek : (k != k) = false := by simp
  have ea : (a != a) = false := by simp
  have eb : (b != b) = false := by simp
  have ec : (c != c) = false := by simp
  have ef : (fin != fin) = false := by simp
  go_enter Try.func9, Try.ntmps9
  go_wp2_with fail
  go_at_call 27
  refine (eqBytes_same _ _ d _ (HH.out.1.1.below (HH.out.2.2.2.2 _ _)) (HH.out.2.1.1.below (HH.out.2.2.2.2 _ _)) (Nat.le_trans HH.out.2.2.1.1 (by decide))).mono ?_
  rintro e w0 ⟨rfl, m0, rfl⟩
  go_wp2_with fail
  go_at_call 27
  refine (eqBytes_same _ _ t _ (HH.out.1.2.1.below (HH.out.2.2.2.1 _ _ _)) (HH.out.2.1.2.1.below (HH.out.2.2.2.1 _ _ _)) (Nat.le_trans HH.out.2.2.1.2.1 (by decide))).mono ?_
  rintro e w1 ⟨rfl, m1, rfl⟩
  go_wp2_with fail
  go_at_call 10
  refine (eqRngs _ _ r _ (HH.out.1.2.2.below (HH.out.2.2.2.1 _ _ _)) (HH.out.2.1.2.2.below (HH.out.2.2.2.1 _ _ _)) HH.out.2.2.1.2.2).mono ?_
  rintro e w2 ⟨rfl, b2⟩
  go_wp2
  go_ret
  exact ⟨rfl, (HH.out.2.2.2.1 _ _ _).trans (b2.mono (HH.out.2.2.2.1 _ _ _).size)⟩
end Go.Proofs.Ytaodcahkkeobdaa
