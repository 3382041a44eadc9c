import Derived.Test.YtajachmhppoodaaDoorRsA
namespace Go.Proofs.YtajachmhppoodaaDoor
open Go.RowKit
set_option linter.unusedVariables false

theorem mB.lt {w : World} {g : Nat} {st win told read final en : Int} {sized : Bool} {vd vt : Value} (h : mB w g st win told read final en sized vd vt) : g < w.heap.size := (Array.getElem?_eq_some_iff.1 h).1
theorem Chg.mono' {S S' : Nat → Prop} {w w' : World} (h : Chg S w w') (hs : ∀ k, k < w.heap.size → S k → S' k) : Chg S' w w' := ⟨h.os, h.tape, h.output, h.size, fun k hk hn => h.block k hk (fun e => hn (hs k hk e))⟩
theorem MA.shape {w : World} {D : Nat → Prop} {g base : Nat} {T : PL} {vd vt : Value} (h : MA w D g base T vd vt) : (∃ da dc, vd = .slice da T.length dc) ∧ ∃ ta tc, vt = .slice ta T.length tc := by
  constructor
  · rcases h.od.2 with ⟨rfl, h1⟩ | ⟨g', cap, cur, rfl, _⟩
    · exact ⟨none, 0, by rw [h1]⟩
    · exact ⟨_, _, rfl⟩
  · rcases h.ot.2 with ⟨rfl, h1⟩ | ⟨g', cap, cur, rfl, _⟩
    · exact ⟨none, 0, by rw [h1]⟩
    · exact ⟨_, _, rfl⟩
theorem grown_chg {w w' : World} {o : Option Nat} (h : w.grownBy w' o) : Chg (fun k => some k = o) w w' := ⟨h.os, h.tape, h.output, h.size, fun k hk hn => h.block k hk hn⟩
theorem pad_one (T : PL) (j : Nat) (h : T.length ≤ j) : pad T (j + 1) = pad T j ++ [(false, 0)] := by
  unfold pad
  rw [show j + 1 - T.length = (j - T.length) + 1 by omega, List.replicate_succ', ← List.append_assoc]
theorem own_gt {w : World} {base e n s : Nat} {v : Value} {xs : List Value} (h : w.ownsRow base e s v n xs) {g : Nat} {c : Array Value} {t : TypeId} {fr : Nat × Nat} (hg : w.heap[g]? = some (.cells c t fr)) (hT : t ≠ e) (k : Nat) (hk : v.ownBlock = some k) : k ≠ g := by
  intro e'
  subst e'
  obtain ⟨c1, e1⟩ := owns_typeB h k hk
  rw [e1] at hg
  have := Option.some.inj hg
  injection this with _ ht
  exact hT ht.symm
theorem own_two {w : World} {b1 b2 n1 n2 e1 e2 s1 s2 : Nat} {v1 v2 : Value} {x1 x2 : List Value} (hT : e1 ≠ e2) (h1 : w.ownsRow b1 e1 s1 v1 n1 x1) (h2 : w.ownsRow b2 e2 s2 v2 n2 x2) (k : Nat) (hk : v1.ownBlock = some k) : some k ≠ v2.ownBlock := by
  intro e
  obtain ⟨c1, f1⟩ := owns_typeB h1 k hk
  obtain ⟨c2, f2⟩ := owns_typeB h2 k e.symm
  rw [f1] at f2
  have := Option.some.inj f2
  injection this with _ ht
  exact hT ht
theorem ownsChg {S : Nat → Prop} {w w' : World} {base e s n : Nat} {v : Value} {xs : List Value} (h : Chg S w w') (ho : w.ownsRow base e s v n xs) (hne : ∀ k, v.ownBlock = some k → ¬ S k) : w'.ownsRow base e s v n xs := by
  obtain ⟨hl, h2⟩ := ho
  refine ⟨hl, ?_⟩
  rcases h2 with h2 | ⟨g', cap, cur, rfl, hg, hh, r⟩
  · exact Or.inl h2
  · exact Or.inr ⟨g', cap, cur, rfl, hg, (h.block g' (Array.getElem?_eq_some_iff.1 hh).1 (hne g' rfl)).trans hh, r⟩
/-- What the padding loop does from j to j + 1. -/
def PadI (w wr : World) (D : Nat → Prop) (g base j : Nat) (st win told read final en : Int) (sized : Bool) (T : PL) : Prop :=
  ∃ vd vt, mB wr g st win told read final en sized vd vt ∧ MA wr (DU D w wr) g base (pad T j) vd vt ∧ Chg D w wr
theorem PadI.next {w wr w1 w2 : World} {D : Nat → Prop} {g base j : Nat} {st win told read final en : Int} {sized : Bool} {T : PL} {vd vt vt' vd' : Value} (hT : T.length ≤ j) (hj : (pad T j).length = j)
    (hb : mB wr g st win told read final en sized vd vt) (hA : MA wr (DU D w wr) g base (pad T j) vd vt) (hc : Chg D w wr)
    (o1 : w1.ownsRow base 4 1 vt' (j + 1) ((pad T j).map (fun x => Value.bool x.1) ++ [.bool false])) (c1 : Chg (fun k => some k = vt.ownBlock) wr w1) (a1 : vt'.ownBlock = vt.ownBlock ∨ ∃ k, vt'.ownBlock = some k ∧ wr.heap.size ≤ k)
    (o2 : w2.ownsRow base 5 1 vd' (j + 1) ((pad T j).map (fun x => Value.int .u8 x.2) ++ [.int .u8 0])) (c2 : Chg (fun k => some k = vd.ownBlock) (w1.setCell ⟨g, 8, none⟩ vt') w2) (a2 : vd'.ownBlock = vd.ownBlock ∨ ∃ k, vd'.ownBlock = some k ∧ w1.heap.size ≤ k) :
    PadI w (w2.setCell ⟨g, 7, none⟩ vd') D g base (j + 1) st win told read final en sized T := by
  have hgl := hb.lt
  have n1 : ∀ k, vt.ownBlock = some k → k ≠ g := own_gt hA.ot hb (by decide)
  have n2 : ∀ k, vd.ownBlock = some k → k ≠ g := own_gt hA.od hb (by decide)
  have b1 : mB w1 g st win told read final en sized vd vt := (c1.block g hgl (fun e => n1 g e.symm rfl)).trans hb
  have b2 : mB (w1.setCell ⟨g, 8, none⟩ vt') g st win told read final en sized vd vt' := bk_set b1 8 vt'
  have b3 : mB w2 g st win told read final en sized vd vt' := (c2.block g b2.lt (fun e => n2 g e.symm rfl)).trans b2
  have b4 : mB (w2.setCell ⟨g, 7, none⟩ vd') g st win told read final en sized vd' vt' := bk_set b3 7 vd'
  have z1 := c1.size
  have z2 := c2.size
  have z2' : w1.heap.size ≤ w2.heap.size := by simpa [World.setCell] using z2
  have zz : (w2.setCell ⟨g, 7, none⟩ vd').heap.size = w2.heap.size := by simp [World.setCell]
  have zc := hc.size
  have hm : ∀ k, vt'.ownBlock = some k → k ≠ g := own_gt o1 b1 (by decide)
  have o1' : (w1.setCell ⟨g, 8, none⟩ vt').ownsRow base 4 1 vt' (j + 1) ((pad T j).map (fun x => Value.bool x.1) ++ [.bool false]) := (Only.setCell (w := w1) ⟨g, 8, none⟩ vt').owns o1 (fun k hk e => hm k hk (Option.some.inj e))
  have odw : w1.ownsRow base 5 1 vd (pad T j).length ((pad T j).map fun x => .int .u8 x.2) := ownsChg c1 hA.od (fun k hk e => own_two (by decide) hA.od hA.ot k hk e)
  have o1'' : w2.ownsRow base 4 1 vt' (j + 1) ((pad T j).map (fun x => Value.bool x.1) ++ [.bool false]) := ownsChg c2 o1' (fun k hk e => own_two (by decide) o1 odw k hk e)
  have hm2 : ∀ k, vd'.ownBlock = some k → k ≠ g := own_gt o2 b3 (by decide)
  have DUm : ∀ k, DU D w wr k → DU D w (w2.setCell ⟨g, 7, none⟩ vd') k := fun k hk => hk.imp id (fun h => ⟨h.1, by omega⟩)
  refine ⟨vd', vt', b4, ⟨?_, ?_, DUm g hA.dg, fun k hk => ?_, fun k hk => ?_, fun k hk => ?_, hA.gb⟩, ?_⟩
  · rw [pad_one T j hT, List.length_append, hj, List.map_append]
    exact (Only.setCell (w := w2) ⟨g, 7, none⟩ vd').owns o2 (fun k hk e => hm2 k hk (Option.some.inj e))
  · rw [pad_one T j hT, List.length_append, hj, List.map_append]
    exact (Only.setCell (w := w2) ⟨g, 7, none⟩ vd').owns o1'' (fun k hk e => hm k hk (Option.some.inj e))
  · rcases a2 with e | ⟨k', e, hk'⟩
    · exact DUm k (hA.dd k (by rw [← e]; exact hk))
    · have : k = k' := Option.some.inj (hk.symm.trans e)
      subst this
      exact Or.inr ⟨by omega, by rw [zz]; exact (o2.lt k hk).2⟩
  · rcases a1 with e | ⟨k', e, hk'⟩
    · exact DUm k (hA.dt k (by rw [← e]; exact hk))
    · have : k = k' := Option.some.inj (hk.symm.trans e)
      subst this
      exact Or.inr ⟨by omega, by rw [zz]; have := (o1.lt k hk).2; omega⟩
  · rcases hk with h | h
    · have := hA.lt k (Or.inl h); omega
    · exact h.2
  · have hDg : ∀ k, k < w.heap.size → DU D w wr k → D k := fun k hk h => h.elim id (fun x => by omega)
    refine ⟨?_, ?_, ?_, by omega, fun k hk hn => ?_⟩
    · exact (c2.os.trans (c1.os.trans hc.os))
    · exact (c2.tape.trans (c1.tape.trans hc.tape))
    · exact (c2.output.trans (c1.output.trans hc.output))
    · have hkg : k ≠ g := fun e => hn (hDg k hk (by rw [e]; exact hA.dg))
      rw [bk_other hkg, c2.block k (by simp [World.setCell]; omega) (fun e => hn (hDg k hk (hA.dd k e.symm))), bk_other hkg, c1.block k (by omega) (fun e => hn (hDg k hk (hA.dt k e.symm)))]
      exact hc.block k hk hn
end Go.Proofs.YtajachmhppoodaaDoor
