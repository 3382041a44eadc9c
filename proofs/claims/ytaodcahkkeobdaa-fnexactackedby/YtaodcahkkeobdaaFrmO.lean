import Derived.Test.YtaodcahkkeobdaaToFrame
import Derived.Test.YtaodcahkkeobdaaMarkBytes
import Derived.Test.YtaodcahkkeobdaaMarkR
namespace Go.Proofs.Ytaodcahkkeobdaa
open Go.RowKit
set_option linter.unusedVariables false

/-- All blocks of a frame's lists lie below B. -/
def FBelow (v : Value) (B : Nat) : Prop := ∀ (c0 c1 c2 c3 c4 d0 d1 d2 : Value), v = .agg #[c0, c1, c2, c3, c4, d0, d1, d2] → ∀ k, (d0.ownBlock = some k ∨ d1.ownBlock = some k ∨ d2.ownBlock = some k) → k < B
theorem FOwns.fbelow {w : World} {base : Nat} {v : Value} {h : F8} (k : FOwns w base v h) : FBelow v w.heap.size := by
  obtain ⟨d0, d1, d2, rfl, o0, o1, ⟨zs, o2, _⟩, _⟩ := k
  intro c0 c1 c2 c3 c4 e0 e1 e2 he k hk
  simp only [Value.agg.injEq, Array.mk.injEq, List.cons.injEq, and_true] at he
  obtain ⟨-, -, -, -, -, rfl, rfl, rfl⟩ := he
  rcases hk with h | h | h
  · exact (o0.lt k h).2
  · exact (o1.lt k h).2
  · exact (o2.lt k h).2
theorem owns_high {w w' : World} {B base e s n : Nat} {v : Value} {xs : List Value} (hh : ∀ k, B ≤ k → k < w.heap.size → w'.heap[k]? = w.heap[k]?) (ho : w.ownsRow base e s v n xs) (hb : B ≤ base) : w'.ownsRow base e s v n xs := by
  obtain ⟨hl, h2⟩ := ho
  refine ⟨hl, ?_⟩
  rcases h2 with h2 | ⟨g, cap, cur, rfl, hg, hp, r⟩
  · exact Or.inl h2
  · exact Or.inr ⟨g, cap, cur, rfl, hg, (hh g (by omega) (Array.getElem?_eq_some_iff.1 hp).1).trans hp, r⟩
/-- What markFrame makes of a frame. -/
def markF (q : Int) (h : F8) : F8 := { h with d := marks q h.d.length, t := marks (q + h.d.length) h.t.length, r := marksR (q + h.d.length + h.t.length) h.r.length }
theorem FOwns.high {w w' : World} {B base : Nat} {v : Value} {h : F8} (hh : ∀ k, B ≤ k → k < w.heap.size → w'.heap[k]? = w.heap[k]?) (ho : FOwns w base v h) (hb : B ≤ base) : FOwns w' base v h := by
  obtain ⟨d0, d1, d2, rfl, o0, o1, ⟨zs, o2, hz⟩, p⟩ := ho
  exact ⟨d0, d1, d2, rfl, owns_high hh o0 hb, owns_high hh o1 hb, ⟨zs, owns_high hh o2 hb, hz⟩, p⟩
set_option maxRecDepth 20000 in
set_option maxHeartbeats 2000000 in
theorem markFrm (q : Int) (base B : Nat) (v : Value) (h : F8) (w : World) (hs : h.small 1048576) (hq0 : 0 ≤ q) (hq1 : q ≤ 4194304) (ho : FOwns w base v h) (hB : FBelow v B) (hbase : base ≤ w.heap.size) :
    Calls Try.prog 12 #[v, .int .i64 q] w fun e w' => e = .returned (.int .i64 (q + h.d.length + h.t.length + 2 * h.r.length)) ∧ FOwns w' base v (markF q h) ∧ Below base w w' ∧ (∀ k, B ≤ k → k < w.heap.size → w'.heap[k]? = w.heap[k]?) ∧ w.heap.size ≤ w'.heap.size := by
  obtain ⟨d0, d1, d2, rfl, o0, o1, o2, p1, p2⟩ := ho
  have hd := hB _ _ _ _ _ _ _ _ rfl
  have A0 : Below w.heap.size w (w.alloc (.cells #[.int .i64 h.k, .int .i64 h.a, .int .i64 h.b, .int .i64 h.c, .bool h.fin, d0, d1, d2] 27)) := (Below.refl _ _).alloc (Nat.le_refl _) _
  have k0 := heap_alloc_new w (.cells #[.int .i64 h.k, .int .i64 h.a, .int .i64 h.b, .int .i64 h.c, .bool h.fin, d0, d1, d2] 27)
  have L0 : ∀ k, d0.ownBlock = some k → k < w.heap.size := fun k hk => (o0.lt k hk).2
  have L1 : ∀ k, d1.ownBlock = some k → k < w.heap.size := fun k hk => (o1.lt k hk).2
  have L2 : ∀ k, d2.ownBlock = some k → k < w.heap.size := fun k hk => by obtain ⟨zs, oz, _⟩ := o2; exact (oz.lt k hk).2
  have hA : base ≤ (w.alloc (.cells #[.int .i64 h.k, .int .i64 h.a, .int .i64 h.b, .int .i64 h.c, .bool h.fin, d0, d1, d2] 27)).heap.size := Nat.le_trans hbase A0.size
  have H0 : Hid _ := And.intro (owns_below o0 A0) (And.intro (owns_below o1 A0) (And.intro (o2.below A0) (And.intro A0 (And.intro k0 (And.intro hd (And.intro p1 (And.intro p2 (And.intro L0 (And.intro L1 (And.intro L2 (And.intro hs (And.intro hbase hA))))))))))))
  clear o0 o1 o2 p1 p2 hd A0 k0 hB L0 L1 L2 hs hbase hA
  obtain ⟨s0, e0⟩ : ∃ s0, s0 = q + (h.d.length : Int) := ⟨_, rfl⟩
  obtain ⟨s1, e1⟩ : ∃ s1, s1 = s0 + (h.t.length : Int) := ⟨_, rfl⟩
  have EE : Hid _ := And.intro e0 e1
  have hn0 : h.d.length ≤ 1048576 := H0.out.2.2.2.2.2.2.2.2.2.2.2.1.1
  have hn1 : h.t.length ≤ 1048576 := H0.out.2.2.2.2.2.2.2.2.2.2.2.1.2.1
  have hn2 : h.r.length ≤ 1048576 := H0.out.2.2.2.2.2.2.2.2.2.2.2.1.2.2
  have hs0 : 0 ≤ s0 ∧ s0 ≤ 140737488355328 := by omega
  have hs1 : 0 ≤ s1 ∧ s1 ≤ 140737488355328 := by omega
  have NN : Hid _ := And.intro hs0 (And.intro hs1 (And.intro hn0 (And.intro hn1 hn2)))
  clear hs0 hs1 hn0 hn1 hn2 e0 e1
  go_enter Try.func12, Try.ntmps12
  go_wp2_with fail
  go_at_call 29
  refine (markBytes q h.d.length base d0 h.d _ (Nat.le_trans NN.out.2.2.1 (by decide)) hq0 (by omega) H0.out.1).mono ?_
  rintro e w1 ⟨rfl, q0, b1, z1, n1⟩
  have k1 := (n1.block w.heap.size (fun e => by have := H0.out.2.2.2.2.2.2.2.2.1 _ e.symm; omega)).trans H0.out.2.2.2.2.1
  have r1 := n1.owns H0.out.2.1 H0.out.2.2.2.2.2.2.1
  have r2 := ROwns.only n1 H0.out.2.2.1 (fun k hk => (H0.out.2.2.2.2.2.2.2.1 k hk).1)
  have c6 : w1.cell? ⟨w.heap.size, 6, none⟩ = some d1 := bk_cell k1 6
  have H1 : Hid _ := And.intro q0 (And.intro b1 (And.intro z1 (And.intro n1 (And.intro k1 (And.intro r1 r2)))))
  clear q0 b1 z1 n1 k1 r1 r2
  rw [← EE.out.1]
  go_wp2_with fail
  go_at_call 29
  refine (markBytes s0 h.t.length base d1 h.t _ (Nat.le_trans NN.out.2.2.2.1 (by decide)) NN.out.1.1 NN.out.1.2 H1.out.2.2.2.2.2.1).mono ?_
  rintro e w2 ⟨rfl, q1, b2, z2, n2⟩
  have k2 := (n2.block w.heap.size (fun e => by have := H0.out.2.2.2.2.2.2.2.2.2.1 _ e.symm; omega)).trans H1.out.2.2.2.2.1
  have q0 := n2.owns H1.out.1 (fun k hk e => H0.out.2.2.2.2.2.2.1 k e.symm hk.symm)
  have r2 := ROwns.only n2 H1.out.2.2.2.2.2.2 (fun k hk => (H0.out.2.2.2.2.2.2.2.1 k hk).2)
  have c7 : w2.cell? ⟨w.heap.size, 7, none⟩ = some d2 := bk_cell k2 7
  have H2 : Hid _ := And.intro q0 (And.intro q1 (And.intro b2 (And.intro z2 (And.intro n2 (And.intro k2 r2)))))
  clear q0 q1 b2 z2 n2 k2 r2 c6
  rw [← EE.out.2]
  go_wp2_with fail
  go_at_call 11
  refine (markRngs s1 base d2 h.r _ (Nat.le_trans NN.out.2.2.2.2 (by decide)) NN.out.2.1.1 NN.out.2.1.2 H2.out.2.2.2.2.2.2).mono ?_
  rintro e w3 ⟨rfl, q2, b3, z3, n3⟩
  have q0 := n3.owns H2.out.1 (fun k hk e => (H0.out.2.2.2.2.2.2.2.1 k e.symm).1 hk.symm)
  have q1 := n3.owns H2.out.2.1 (fun k hk e => (H0.out.2.2.2.2.2.2.2.1 k e.symm).2 hk.symm)
  have H3 : Hid _ := And.intro q0 (And.intro q1 (And.intro q2 (And.intro b3 (And.intro z3 n3))))
  clear q0 q1 q2 b3 z3 n3 c7
  go_wp2
  go_ret
  have hA := H0.out.2.2.2.1
  refine ⟨by rw [EE.out.2, EE.out.1]; rfl, ⟨d0, d1, d2, rfl, ?_, ?_, ?_, H0.out.2.2.2.2.2.2.1, H0.out.2.2.2.2.2.2.2.1⟩, ?_, ?_, ?_⟩
  · show w3.ownsRow base 5 1 d0 (marks q h.d.length).length _
    rw [marks_length]; exact H3.out.1
  · show w3.ownsRow base 5 1 d1 (marks (q + h.d.length) h.t.length).length ((marks (q + h.d.length) h.t.length).map (Value.int .u8))
    rw [marks_length, ← EE.out.1]; exact H3.out.2.1
  · show ROwns w3 base d2 (marksR (q + h.d.length + h.t.length) h.r.length)
    rw [← EE.out.1, ← EE.out.2]; exact H3.out.2.2.1
  · exact (((hA.mono H0.out.2.2.2.2.2.2.2.2.2.2.2.2.1).trans H1.out.2.1).trans H2.out.2.2.1).trans H3.out.2.2.2.1
  · intro k hk hkw
    have hd := H0.out.2.2.2.2.2.1 k
    rw [H3.out.2.2.2.2.2.block k (fun e => by have := hd (Or.inr (Or.inr e.symm)); omega), H2.out.2.2.2.2.1.block k (fun e => by have := hd (Or.inr (Or.inl e.symm)); omega), H1.out.2.2.2.1.block k (fun e => by have := hd (Or.inl e.symm); omega)]
    exact Below.heap_alloc _ _ _ hkw
  · rw [H3.out.2.2.2.2.1, H2.out.2.2.2.1, H1.out.2.2.1]
    exact hA.size
set_option maxRecDepth 20000 in
set_option maxHeartbeats 2000000 in
theorem heldFrm (q : Int) (v : Value) (h : F8) (w : World) (hs : h.small 1048576) (hq0 : 0 ≤ q) (hq1 : q ≤ 4194304) (ho : FRow w v (markF q h)) :
    Calls Try.prog 13 #[v, .int .i64 q] w fun e w' => e = .returned (.int .i64 (q + h.d.length + h.t.length + 2 * h.r.length)) ∧ Below w.heap.size w w' := by
  obtain ⟨d0, d1, d2, rfl, o0, o1, o2⟩ := ho
  change Row w .u8 d0 (marks q h.d.length) at o0
  change Row w .u8 d1 (marks (q + h.d.length) h.t.length) at o1
  change RRow w d2 (marksR (q + h.d.length + h.t.length) h.r.length) at o2
  obtain ⟨s0, e0⟩ : ∃ s0, s0 = q + (h.d.length : Int) := ⟨_, rfl⟩
  obtain ⟨s1, e1⟩ : ∃ s1, s1 = s0 + (h.t.length : Int) := ⟨_, rfl⟩
  rw [← e0] at o1 o2
  rw [← e1] at o2
  have hn0 : h.d.length ≤ 1048576 := hs.1
  have hn1 : h.t.length ≤ 1048576 := hs.2.1
  have hn2 : h.r.length ≤ 1048576 := hs.2.2
  have hs0 : 0 ≤ s0 ∧ s0 ≤ 140737488355328 := by omega
  have hs1 : 0 ≤ s1 ∧ s1 ≤ 140737488355328 := by omega
  have x0 : ¬ (s0 < 0) := by omega
  have x1 : ¬ (s1 < 0) := by omega
  obtain ⟨s2, e2⟩ : ∃ s2, s2 = s1 + 2 * (h.r.length : Int) := ⟨_, rfl⟩
  have x2 : ¬ (s2 < 0) := by omega
  have A0 : Below w.heap.size w (w.alloc (.cells #[.int .i64 (markF q h).k, .int .i64 (markF q h).a, .int .i64 (markF q h).b, .int .i64 (markF q h).c, .bool (markF q h).fin, d0, d1, d2] 27)) := (Below.refl _ _).alloc (Nat.le_refl _) _
  have C0 := heldBytes q h.d.length d0 _ (o0.below A0) (by omega) hq0 (by omega)
  have C1 := heldBytes s0 h.t.length d1 _ (o1.below A0) (by omega) hs0.1 hs0.2
  have C2 := heldRngs s1 h.r.length d2 _ (o2.below A0) (by omega) hs1.1 hs1.2
  rw [← e0] at C0
  rw [← e1] at C1
  rw [← e2] at C2
  have EE : Hid _ := And.intro e0 (And.intro e1 (And.intro e2 (And.intro A0 (And.intro C0 (And.intro C1 C2)))))
  clear e0 e1 e2 A0 C0 C1 C2 o0 o1 o2 hs hs0 hs1 hn0 hn1 hn2
  go_enter Try.func13, Try.ntmps13
  go_wp2_with fail
  go_at_call 30
  refine EE.out.2.2.2.2.1.mono ?_
  rintro e w1 ⟨rfl, hw⟩
  subst w1
  go_wp2_with fail
  go_at_call 30
  refine EE.out.2.2.2.2.2.1.mono ?_
  rintro e w1 ⟨rfl, hw⟩
  subst w1
  go_wp2_with fail
  go_at_call 31
  refine EE.out.2.2.2.2.2.2.mono ?_
  rintro e w1 ⟨rfl, hw⟩
  subst w1
  go_wp2
  go_ret
  exact ⟨by rw [EE.out.2.2.1, EE.out.2.1, EE.out.1]; rfl, EE.out.2.2.2.1⟩
end Go.Proofs.Ytaodcahkkeobdaa
