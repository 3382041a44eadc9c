import Derived.Test.YtjikdecfampbiaaFlApp
import Derived.ArgAppend
import Derived.Laws.IdiomCopy
namespace Go.Proofs.Ytjikdecfampbiaa
open Go.RowKit
set_option linter.unusedVariables false

/-- Blocks that stay: those below base, and those that are none of S and hold no T. -/
structure ChS (S : Nat → Prop) (T : TypeId) (base : Nat) (w w' : World) : Prop where
  os : w'.os = w.os
  tape : w'.tape = w.tape
  output : w'.output = w.output
  size : w.heap.size ≤ w'.heap.size
  block : ∀ k, k < w.heap.size → (k < base ∨ (¬ S k ∧ ∀ c fr, w.heap[k]? ≠ some (.cells c T fr))) → w'.heap[k]? = w.heap[k]?
section
variable {S : Nat → Prop} {T : TypeId} {base : Nat} {w w1 w2 w' : World}
theorem ChS.refl (S : Nat → Prop) (T : TypeId) (base : Nat) (w : World) : ChS S T base w w := ⟨rfl, rfl, rfl, Nat.le_refl _, fun _ _ _ => rfl⟩
theorem ChS.trans (h : ChS S T base w w1) (k : ChS S T base w1 w2) : ChS S T base w w2 :=
  ⟨k.os.trans h.os, k.tape.trans h.tape, k.output.trans h.output, Nat.le_trans h.size k.size, fun i hi hs => by
    have e := h.block i hi hs
    exact (k.block i (Nat.lt_of_lt_of_le hi h.size) (by rw [e]; exact hs)).trans e⟩
theorem ChS.of_below (h : Below w.heap.size w w') : ChS S T base w w' := ⟨h.os, h.tape, h.output, h.size, fun k hk _ => h.block k hk⟩
theorem ChS.of_eq (h : w' = w) : ChS S T base w w' := h ▸ ChS.refl S T base w
theorem ChS.toBelow (h : ChS S T base w w') (hb : base ≤ w.heap.size) : Below base w w' := ⟨h.os, h.tape, h.output, h.size, fun k hk => h.block k (by omega) (Or.inl hk)⟩
theorem ChS.drewN (h : ChS S T base w w1) (n : Nat) : ChS S T base w (w1.drewN n) := ⟨h.os, h.tape, h.output, h.size, h.block⟩
theorem ChS.drew (h : ChS S T base w w1) : ChS S T base w w1.drew := ⟨h.os, h.tape, h.output, h.size, h.block⟩
theorem ChS.alloc (h : ChS S T base w w1) (o : Obj) : ChS S T base w (w1.alloc o) :=
  h.trans (ChS.of_below ((Below.refl _ _).alloc (Nat.le_refl _) o))
theorem setCell_size (w : World) (p : Addr) (v : Value) : (w.setCell p v).heap.size = w.heap.size := by simp [World.setCell]
/-- A store into a block that was not there at first. -/
theorem ChS.setN (h : ChS S T base w w1) {k : Nat} (hk : w.heap.size ≤ k) (o : Nat) (v : Value) : ChS S T base w (w1.setCell ⟨k, o, none⟩ v) :=
  ⟨h.os, h.tape, h.output, by rw [setCell_size]; exact h.size, fun i hi hs => (bk_other (by omega) o v).trans (h.block i hi hs)⟩
/-- A store into a block of S. -/
theorem ChS.setS (h : ChS S T base w w1) {k : Nat} (hk : S k) (hb : base ≤ k) (o : Nat) (v : Value) : ChS S T base w (w1.setCell ⟨k, o, none⟩ v) :=
  ⟨h.os, h.tape, h.output, by rw [setCell_size]; exact h.size, fun i hi hs => (bk_other (fun e => by
    subst e
    rcases hs with hs | hs
    · omega
    · exact hs.1 hk) o v).trans (h.block i hi hs)⟩
theorem ChS.mono {S' : Nat → Prop} (h : ChS S T base w w1) (hs : ∀ k, S k → S' k) : ChS S' T base w w1 :=
  ⟨h.os, h.tape, h.output, h.size, fun i hi ho => h.block i hi (ho.imp id (fun x => ⟨fun e => x.1 (hs i e), x.2⟩))⟩
theorem ChS.of_grown {r : Option Nat} (g : w.grownBy w' r) (hr : ∀ k, r = some k → base ≤ k ∧ ∃ c fr, w.heap[k]? = some (.cells c T fr)) : ChS S T base w w' :=
  ⟨g.os, g.tape, g.output, g.size, fun i hi hs => g.block i hi (fun e => by
    obtain ⟨h1, c, fr, h2⟩ := hr i e.symm
    rcases hs with hs | hs
    · omega
    · exact hs.2 c fr h2)⟩
/-- What lies in a block of another type stays. -/
theorem ChS.bk (h : ChS S T base w w') {g : Nat} {c : Array Value} {t : TypeId} {fr : Nat × Nat} (hb : w.heap[g]? = some (.cells c t fr)) (hn : g < base ∨ (¬ S g ∧ t ≠ T)) : w'.heap[g]? = some (.cells c t fr) :=
  (h.block g (Array.getElem?_eq_some_iff.1 hb).1 (hn.imp id (fun x => ⟨x.1, fun c' fr' e => by rw [hb] at e; exact x.2 (by have e2 := Option.some.inj e; injection e2)⟩))).trans hb
end
theorem heap_setCells (b : Nat) (T : TypeId) (fr : Nat × Nat) : ∀ (vs : List Value) (o : Nat) (w : World) (cur : Array Value), w.heap[b]? = some (.cells cur T fr) → ∃ cur' : Array Value, (w.setCells b o vs).heap[b]? = some (.cells cur' T fr) ∧ cur'.size = cur.size ∧ ∀ i, i < cur.size → cur'[i]? = if o ≤ i ∧ i < o + vs.length then vs[i - o]? else cur[i]?
  | [], o, w, cur, h => ⟨cur, h, rfl, fun i hi => by rw [if_neg (by simp only [List.length_nil]; omega)]⟩
  | v :: r, o, w, cur, h => by
    obtain ⟨cur', h1, h2, h3⟩ := heap_setCells b T fr r (o + 1) (w.setCell ⟨b, o, none⟩ v) _ (bk_set h o v)
    refine ⟨cur', h1, by rw [h2]; simp, fun i hi => ?_⟩
    rw [h3 i (by simpa using hi)]
    by_cases e : i = o
    · subst e
      rw [if_neg (by omega), if_pos (by simp), Nat.sub_self]
      simp [hi]
    · by_cases c : o + 1 ≤ i ∧ i < o + 1 + r.length
      · rw [if_pos c, if_pos ⟨by omega, by simp only [List.length_cons]; omega⟩, show i - o = (i - (o + 1)) + 1 by omega]
        rfl
      · rw [if_neg c, if_neg (by simp only [List.length_cons]; omega), Array.getElem?_setIfInBounds, if_neg (fun q => e q.symm)]
theorem setCells_size (b : Nat) : ∀ (vs : List Value) (o : Nat) (w : World), (w.setCells b o vs).heap.size = w.heap.size
  | [], _, _ => rfl
  | v :: r, o, w => (setCells_size b r (o + 1) _).trans (setCell_size w _ v)
theorem grown_setCells (b : Nat) : ∀ (vs : List Value) (o : Nat) (w : World), w.grownBy (w.setCells b o vs) (some b)
  | [], o, w => ⟨rfl, rfl, rfl, Nat.le_refl _, fun _ _ _ => rfl⟩
  | v :: r, o, w => by
    have g := grown_setCells b r (o + 1) (w.setCell ⟨b, o, none⟩ v)
    exact ⟨g.os, g.tape, g.output, by rw [setCells_size]; exact Nat.le_refl _, fun k hk hn => (g.block k (by rw [setCell_size]; exact hk) hn).trans (bk_other (fun e => hn (by rw [e])) o v)⟩
/-- A row of structs of K cells, of one's own, which may begin amid its block. -/
def OffR (T : TypeId) (K : Nat) (w : World) (base : Nat) (v : Value) (L : List (List Value)) : Prop :=
  (v = .slice none 0 0 ∧ L = []) ∨ ∃ g o cap cur, v = .slice (some ⟨g, o, none⟩) L.length cap ∧ base ≤ g ∧ w.heap[g]? = some (.cells cur T (0, 0)) ∧ L.length ≤ cap ∧ cap ≤ maxLen ∧ cur.size = o + cap * K ∧ ∀ j f, j < L.length → f < K → cur[o + (j * K + f)]? = (L.getD j [])[f]?
section
variable {T : TypeId} {K : Nat} {w w' : World} {base : Nat} {v : Value} {L : List (List Value)}
theorem OffR.nil (T : TypeId) (K : Nat) (w : World) (base : Nat) : OffR T K w base (.slice none 0 0) [] := Or.inl ⟨rfl, rfl⟩
theorem OffR.form (h : OffR T K w base v L) : ∃ ao cap, v = .slice ao L.length cap := by
  rcases h with ⟨rfl, rfl⟩ | ⟨g, o, cap, cur, rfl, _⟩
  · exact ⟨none, 0, rfl⟩
  · exact ⟨_, _, rfl⟩
theorem OffR.row (h : OffR T K w base v L) : GRow K w v L := by
  rcases h with ⟨rfl, rfl⟩ | ⟨g, o, cap, cur, rfl, h1, h2, h3, h4, h5, h6⟩
  · exact Or.inl ⟨rfl, none, 0, rfl⟩
  · exact Or.inr ⟨g, o, cap, rfl, (Array.getElem?_eq_some_iff.1 h2).1, fun j hj f hf => by rw [bk_cell h2]; exact h6 j f hj hf⟩
theorem OffR.of_owns (hK : 0 < K) (hL : FlatK K L) (h : w.ownsRow base T K v L.length L.flatten) : OffR T K w base v L := by
  rcases h.2 with ⟨rfl, h0⟩ | ⟨g, cap, cur, rfl, hg, hh, hnc, hcm, hcs, ht⟩
  · exact Or.inl ⟨rfl, List.eq_nil_of_length_eq_zero h0⟩
  · refine Or.inr ⟨g, 0, cap, cur, rfl, hg, hh, hnc, hcm, by omega, fun j f hj hf => ?_⟩
    rw [← flat_get hL j f hj hf, ← ht, List.getElem?_take, if_pos (jK_lt hj hf), Nat.zero_add]
    simp
theorem OffR.chg {S : Nat → Prop} {T' : TypeId} {b' : Nat} (h : OffR T K w base v L) (hc : ChS S T' b' w w') (hs : ∀ g, v.ownBlock = some g → (∃ c fr, w.heap[g]? = some (.cells c T fr)) → g < b' ∨ (¬ S g ∧ T ≠ T')) : OffR T K w' base v L := by
  rcases h with h | ⟨g, o, cap, cur, rfl, h1, h2, r⟩
  · exact Or.inl h
  · exact Or.inr ⟨g, o, cap, cur, rfl, h1, hc.bk h2 (hs g rfl ⟨_, _, h2⟩), r⟩
theorem OffR.below (h : OffR T K w base v L) (hb : Below w.heap.size w w') : OffR T K w' base v L := by
  rcases h with h | ⟨g, o, cap, cur, rfl, h1, h2, r⟩
  · exact Or.inl h
  · exact Or.inr ⟨g, o, cap, cur, rfl, h1, (hb.block g (Array.getElem?_eq_some_iff.1 h2).1).trans h2, r⟩
theorem OffR.mono {base' : Nat} (h : OffR T K w base v L) (hb : base' ≤ base) : OffR T K w base' v L := by
  rcases h with h | ⟨g, o, cap, cur, rfl, h1, r⟩
  · exact Or.inl h
  · exact Or.inr ⟨g, o, cap, cur, rfl, Nat.le_trans hb h1, r⟩
theorem OffR.set {t : TypeId} {g' i : Nat} {u : Value} {c : Array Value} {fr : Nat × Nat} (h : OffR T K w base v L) (hb : w.heap[g']? = some (.cells c t fr)) (hne : t ≠ T) : OffR T K (w.setCell ⟨g', i, none⟩ u) base v L := by
  rcases h with h | ⟨g, o, cap, cur, rfl, h1, h2, r⟩
  · exact Or.inl h
  · refine Or.inr ⟨g, o, cap, cur, rfl, h1, (bk_other (fun e => ?_) i u).trans h2, r⟩
    subst e
    rw [hb] at h2
    have e2 := Option.some.inj h2
    injection e2 with _ e3
    exact hne e3
theorem OffR.new {k i : Nat} {u : Value} (h : OffR T K w base v L) (hk : w.heap.size ≤ k) : OffR T K (w.setCell ⟨k, i, none⟩ u) base v L := by
  rcases h with h | ⟨g, o, cap, cur, rfl, h1, h2, r⟩
  · exact Or.inl h
  · exact Or.inr ⟨g, o, cap, cur, rfl, h1, (bk_other (by have := (Array.getElem?_eq_some_iff.1 h2).1; omega) i u).trans h2, r⟩
/-- All but the first. -/
theorem OffR.tail {ao : Option Addr} {n cap : Nat} {x : List Value} (h : OffR T K w base (.slice ao n cap) (x :: L)) (hc : 1 < cap) : ∃ g o, ao = some ⟨g, o, none⟩ ∧ n = L.length + 1 ∧ OffR T K w base (.slice (some ⟨g, o + K, none⟩) L.length (cap - 1)) L := by
  rcases h with ⟨h, h0⟩ | ⟨g, o, cap', cur, e, h1, h2, h3, h4, h5, h6⟩
  · exact absurd h0 (by simp)
  · simp only [Value.slice.injEq, List.length_cons] at e
    obtain ⟨rfl, rfl, rfl⟩ := e
    refine ⟨g, o, rfl, rfl, Or.inr ⟨g, o + K, cap - 1, cur, rfl, h1, h2, by simp only [List.length_cons] at h3; omega, by omega, ?_, fun j f hj hf => ?_⟩⟩
    · rw [h5, Nat.sub_mul, Nat.one_mul]
      have : K ≤ cap * K := Nat.le_mul_of_pos_left K (by omega)
      omega
    · have t := h6 (j + 1) f (by simp only [List.length_cons]; omega) hf
      rw [Nat.add_mul, Nat.one_mul] at t
      rw [show o + K + (j * K + f) = o + (j * K + K + f) by omega, t]
      rfl
end
set_option maxRecDepth 20000 in
/-- An append onto it. -/
theorem run_append_off {w : World} (tA ty T : TypeId) (htA : Try.prog.underlying tA = some (.slice T)) (i0 : TypeInfo) (z : Value) (K B : Nat) (hi : Try.prog.info? T = some i0) (hz0 : i0.zero = some z) (hz1 : i0.size = K) (hz2 : i0.bytes = B) (hzc : z.cells.size = K) (hK : 0 < K) (hB : B ≤ 128)
    (base : Nat) (v : Value) (R : List (List Value)) (hR : FlatK K R) (hown : OffR T K w base v R) (v2 : Value) (S : List (List Value)) (hS : FlatK K S) (hrow : GRow K w v2 S) (h0 : 0 < S.length) (h63 : R.length + S.length ≤ 1099511627776) (hbase : base ≤ w.heap.size) :
    ∃ v' w', (Builtin.append_ #[tA, tA] ty #[v, v2]).run Try.prog w = .ok v' w' ∧ OffR T K w' base v' (R ++ S) ∧ ∀ S', ChS S' T base w w' := by
  obtain ⟨b, off, cap, rfl, hb, hc⟩ := hrow.at' h0
  have hbt : (R.length + S.length) * B ≤ 140737488355328 := Nat.le_trans (Nat.mul_le_mul h63 hB) (by decide)
  have hm : R.length + S.length ≤ maxLen := by unfold maxLen; omega
  rcases hown with ⟨rfl, rfl⟩ | ⟨g, o, cp, cur, rfl, h1, h2, h3, h4, h5, h6⟩
  · obtain ⟨v', w', hr, ho', hg, _⟩ := run_append_own (P := Try.prog) w base tA ty T i0 z K B htA hi hz0 hz1 hz2 hzc hK (.slice none 0 0) 0 [] (World.ownsRow_nil _ _ _ _) ⟨b, off, none⟩ S.length cap S.flatten (flat_len hS) (fun j u hj => flat_read hK hS hc j u hj) (flat_one hS) (by simpa using hm) (by simpa using hbt) hbase
    refine ⟨v', w', hr, OffR.of_owns hK (by simpa using hS) (by simpa using ho'), fun S' => ChS.of_grown hg (fun k hk => by cases hk)⟩
  · by_cases hroom : R.length + S.length ≤ cp
    · have hfit : o + R.length * K + S.flatten.length ≤ cur.size := by
        rw [flat_len hS, h5, Nat.add_assoc, ← Nat.add_mul]
        exact Nat.add_le_add_left (Nat.mul_le_mul_right _ hroom) _
      have hr := run_append_room_cells (P := Try.prog) w tA ty T i0 htA hi g o R.length cp ⟨b, off, none⟩ S.length cap S.flatten (by rw [hz1]; exact flat_len hS) (fun j u hj => flat_read hK hS hc j u hj) (flat_one hS) hroom
        (fun j hj => by rw [bk_cell h2, hz1, Array.getElem?_eq_getElem (by omega)]; rfl) (fun j hj => bk_free h2 _)
      rw [hz1] at hr
      obtain ⟨cur', q1, q2, q3⟩ := heap_setCells g T (0, 0) S.flatten (o + R.length * K) w cur h2
      refine ⟨_, _, hr, Or.inr ⟨g, o, cp, cur', by rw [List.length_append], h1, q1, by rw [List.length_append]; exact hroom, h4, by rw [q2, h5], fun j f hj hf => ?_⟩, fun S' => ChS.of_grown (grown_setCells g _ _ w) (fun k hk => ?_)⟩
      · rw [List.length_append] at hj
        have hlt : o + (j * K + f) < cur.size := by
          rw [h5]
          have := jK_lt (K := K) (show j < cp by omega) hf
          omega
        rw [q3 _ hlt]
        by_cases c : j < R.length
        · have := jK_lt (K := K) c hf
          rw [if_neg (by omega), h6 j f c hf]
          simp [List.getD, List.getElem?_append_left c]
        · have e1 : R.length * K ≤ j * K := Nat.mul_le_mul_right _ (by omega)
          have e2 : (j - R.length) * K = j * K - R.length * K := Nat.sub_mul _ _ _
          have e3 := jK_lt (K := K) (show j - R.length < S.length by omega) hf
          rw [← flat_len hS] at e3
          rw [if_pos ⟨by omega, by omega⟩, show o + (j * K + f) - (o + R.length * K) = (j - R.length) * K + f by omega, flat_get hS _ f (by omega) hf]
          simp [List.getD, List.getElem?_append_right (show R.length ≤ j by omega)]
      · obtain rfl : g = k := Option.some.inj hk
        exact ⟨h1, _, _, h2⟩
    · obtain ⟨v', w', hr, ho', hg⟩ := run_append_arg_grows (P := Try.prog) w tA ty T i0 z K B htA hi hz0 hz1 hz2 hzc hK ⟨g, o, none⟩ R.length cp R.flatten (flat_len hR)
        (fun j u hj => flat_read hK hR (b := g) (off := o) (fun j hj f hf => by rw [bk_cell h2]; exact h6 j f hj hf) j u hj) ⟨b, off, none⟩ S.length cap S.flatten (flat_len hS) (fun j u hj => flat_read hK hS hc j u hj) (by omega) hm hbt
      refine ⟨v', w', hr, (OffR.of_owns hK (hR.append hS) (by rw [List.flatten_append, List.length_append]; exact ho')).mono hbase, fun S' => ChS.of_grown hg (fun k hk => by cases hk)⟩
theorem wpList_append_off {w : World} {ops : Array Oper} {rest : List Oper} {o : Oper} {a : Act} {Q : Exit → Act → World → Prop} (hgd : o.guard = none) (p q : Operand) (tA T : TypeId) (htA : Try.prog.underlying tA = some (.slice T)) (z : Value) (K B : Nat) (hinfo : (Try.prog.info? T).map (fun i => (i.zero, i.size, i.bytes)) = some (some z, K, B)) (hzc : z.cells.size = K) (hK : 0 < K) (hB : B ≤ 128)
    (ho : o.op = .call { callee := .builtin .append, args := #[p, q], argTypes := #[tA, tA] })
    (base : Nat) (v : Value) (R : List (List Value)) (hR : FlatK K R) (hp : a.eval p = v) (hown : OffR T K w base v R) (v2 : Value) (S : List (List Value)) (hS : FlatK K S) (hq : a.eval q = v2) (hrow : GRow K w v2 S) (h0 : 0 < S.length) (h63 : R.length + S.length ≤ 1099511627776) (hbase : base ≤ w.heap.size)
    (h : ∀ v' w', OffR T K w' base v' (R ++ S) → (∀ S', ChS S' T base w w') → wpList Try.prog ops Q rest (a.put o.dst v') w') :
    wpList Try.prog ops Q (o :: rest) a w := by
  obtain ⟨i0, hi, hz0, hz1, hz2⟩ := info_parts hinfo
  obtain ⟨v', w', hr, h2, h3⟩ := run_append_off tA o.type T htA i0 z K B hi hz0 hz1 hz2 hzc hK hB base v R hR hown v2 S hS hrow h0 h63 hbase
  refine wpList_plain hgd fun K hK => ?_
  unfold Oper.wp
  simp [execOp, ho, resolve, invoke, builtin, hp, hq, hr, Result.andThen]
  exact hK _ _ (h v' w' h2 h3)
theorem step_append_off {w : World} {ops : Array Oper} {o : Oper} {a : Act} {KK : Act → World → Prop} {Q : Exit → Act → World → Prop} {E : Prop} (hgd : o.guard = none) (p q : Operand) (tA T : TypeId) (htA : Try.prog.underlying tA = some (.slice T)) (z : Value) (K B : Nat) (hinfo : (Try.prog.info? T).map (fun i => (i.zero, i.size, i.bytes)) = some (some z, K, B)) (hzc : z.cells.size = K) (hK : 0 < K) (hB : B ≤ 128)
    (ho : o.op = .call { callee := .builtin .append, args := #[p, q], argTypes := #[tA, tA] })
    (base : Nat) (v : Value) (R : List (List Value)) (hR : FlatK K R) (hp : a.eval p = v) (hown : OffR T K w base v R) (v2 : Value) (S : List (List Value)) (hS : FlatK K S) (hq : a.eval q = v2) (hrow : GRow K w v2 S) (h0 : 0 < S.length) (h63 : R.length + S.length ≤ 1099511627776) (hbase : base ≤ w.heap.size)
    (h : ∀ v' w', OffR T K w' base v' (R ++ S) → (∀ S', ChS S' T base w w') → KK (a.put o.dst v') w') :
    if Region.wanted o (yielded ops a.tmps) = true then Oper.wp Try.prog o a w KK Q else E := by
  have hw : Region.wanted o (yielded ops a.tmps) = true := by simp [Region.wanted, hgd]
  rw [if_pos hw]
  obtain ⟨i0, hi, hz0, hz1, hz2⟩ := info_parts hinfo
  obtain ⟨v', w', hr, h2, h3⟩ := run_append_off tA o.type T htA i0 z K B hi hz0 hz1 hz2 hzc hK hB base v R hR hown v2 S hS hrow h0 h63 hbase
  unfold Oper.wp
  simp [execOp, ho, resolve, invoke, builtin, hp, hq, hr, Result.andThen]
  exact h v' w' h2 h3
end Go.Proofs.Ytjikdecfampbiaa
