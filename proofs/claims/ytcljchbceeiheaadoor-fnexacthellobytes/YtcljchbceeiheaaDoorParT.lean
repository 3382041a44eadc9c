import Derived.Test.YtcljchbceeiheaaDoorParP
import Derived.Test.YtcljchbceeiheaaDoorStoreE
import Derived.Test.YtcljchbceeiheaaDoorBlocks
import Derived.Laws.Rows
import Derived.Laws.EntriesVeiled
namespace Go.Proofs.YtcljchbceeiheaaDoor
open Go.RowKit
set_option linter.unusedVariables false

theorem infoEn : (Tryd.prog.info? 78).map (·.size) = some 5 := by kernel_rfl

theorem only_cellE {w w' : World} {g a : Nat} (h : Only (some g) w w') (hne : a ≠ g) : w'.cell? ⟨a, 0, none⟩ = w.cell? ⟨a, 0, none⟩ := by
  simp only [World.cell?, h.block a (fun e => hne (Option.some.inj e))]
/-- The five cells of such an entry, and what its functions have hold of. -/
def NumE (w : World) (base : Nat) (cs : Array Value) (num : Int) (g off : Nat) (l h : Int) : Prop :=
  ∃ b : Nat, cs = #[.int .i64 num, .func (.func 73) #[] #[.pointer (some ⟨b, 0, none⟩), .pointer (some ⟨(b + 1), 0, none⟩), .pointer (some ⟨(b + 2), 0, none⟩)], .func (.func 74) #[] #[], .func (.func 75) #[] #[.pointer (some ⟨b, 0, none⟩)], .func (.func 76) #[] #[.pointer (some ⟨b, 0, none⟩)]] ∧ w.cell? ⟨b, 0, none⟩ = some (.pointer (some ⟨g, off, none⟩)) ∧ base ≤ b ∧ b < w.heap.size ∧ w.cell? ⟨(b + 1), 0, none⟩ = some (.int .i64 l) ∧ base ≤ (b + 1) ∧ (b + 1) < w.heap.size ∧ w.cell? ⟨(b + 2), 0, none⟩ = some (.int .i64 h) ∧ base ≤ (b + 2) ∧ (b + 2) < w.heap.size
theorem NumE.below {w w' : World} {base : Nat} {cs : Array Value} {num : Int} {g off : Nat} {l h : Int} (hb : Below w.heap.size w w') (k : NumE w base cs num g off l h) : NumE w' base cs num g off l h := by
  obtain ⟨b, e, h0, g0, l0, h1, g1, l1, h2, g2, l2⟩ := k
  have z := hb.size
  exact ⟨b, e, (hb.cell (p := ⟨b, 0, none⟩) l0).trans h0, g0, by omega, (hb.cell (p := ⟨(b + 1), 0, none⟩) l1).trans h1, g1, by omega, (hb.cell (p := ⟨(b + 2), 0, none⟩) l2).trans h2, g2, by omega⟩
theorem NumE.only {w w' : World} {base q : Nat} {cs : Array Value} {num : Int} {g off : Nat} {l h : Int} (hb : Only (some q) w w') (hq : q < base) (k : NumE w base cs num g off l h) : NumE w' base cs num g off l h := by
  obtain ⟨b, e, h0, g0, l0, h1, g1, l1, h2, g2, l2⟩ := k
  have z := hb.size
  exact ⟨b, e, (only_cellE hb (by omega)).trans h0, g0, by omega, (only_cellE hb (by omega)).trans h1, g1, by omega, (only_cellE hb (by omega)).trans h2, g2, by omega⟩
theorem NumE.mono {w : World} {base base' : Nat} {cs : Array Value} {num : Int} {g off : Nat} {l h : Int} (hb : base' ≤ base) (k : NumE w base cs num g off l h) : NumE w base' cs num g off l h := by
  obtain ⟨b, e, h0, g0, l0, h1, g1, l1, h2, g2, l2⟩ := k
  exact ⟨b, e, h0, by omega, l0, h1, by omega, l1, h2, by omega, l2⟩
/-- The five cells of such an entry, and what its functions have hold of. -/
def LstE (w : World) (base : Nat) (cs : Array Value) (num : Int) (g off : Nat) (mf : Value) : Prop :=
  ∃ b : Nat, cs = #[.int .i64 num, .func (.func 86) #[] #[.pointer (some ⟨(b + 1), 0, none⟩), .pointer (some ⟨b, 0, none⟩)], .func (.func 74) #[] #[], .func (.func 87) #[] #[.pointer (some ⟨b, 0, none⟩)], .func (.func 88) #[] #[.pointer (some ⟨b, 0, none⟩)]] ∧ w.cell? ⟨b, 0, none⟩ = some (.pointer (some ⟨g, off, none⟩)) ∧ base ≤ b ∧ b < w.heap.size ∧ w.cell? ⟨(b + 1), 0, none⟩ = some (mf) ∧ base ≤ (b + 1) ∧ (b + 1) < w.heap.size
theorem LstE.below {w w' : World} {base : Nat} {cs : Array Value} {num : Int} {g off : Nat} {mf : Value} (hb : Below w.heap.size w w') (k : LstE w base cs num g off mf) : LstE w' base cs num g off mf := by
  obtain ⟨b, e, h0, g0, l0, h1, g1, l1⟩ := k
  have z := hb.size
  exact ⟨b, e, (hb.cell (p := ⟨b, 0, none⟩) l0).trans h0, g0, by omega, (hb.cell (p := ⟨(b + 1), 0, none⟩) l1).trans h1, g1, by omega⟩
theorem LstE.only {w w' : World} {base q : Nat} {cs : Array Value} {num : Int} {g off : Nat} {mf : Value} (hb : Only (some q) w w') (hq : q < base) (k : LstE w base cs num g off mf) : LstE w' base cs num g off mf := by
  obtain ⟨b, e, h0, g0, l0, h1, g1, l1⟩ := k
  have z := hb.size
  exact ⟨b, e, (only_cellE hb (by omega)).trans h0, g0, by omega, (only_cellE hb (by omega)).trans h1, g1, by omega⟩
theorem LstE.mono {w : World} {base base' : Nat} {cs : Array Value} {num : Int} {g off : Nat} {mf : Value} (hb : base' ≤ base) (k : LstE w base cs num g off mf) : LstE w base' cs num g off mf := by
  obtain ⟨b, e, h0, g0, l0, h1, g1, l1⟩ := k
  exact ⟨b, e, h0, by omega, l0, h1, by omega, l1⟩
/-- The five cells of such an entry, and what its functions have hold of. -/
def OrgE (w : World) (base : Nat) (cs : Array Value) (num : Int) (g off : Nat) (s : Bool) : Prop :=
  ∃ b c : Nat, cs = #[.int .i64 num, .func (.func 86) #[] #[.pointer (some ⟨(b + 1), 0, none⟩), .pointer (some ⟨b, 0, none⟩)], .func (.func 72) #[] #[.pointer (some ⟨c, 0, none⟩)], .func (.func 87) #[] #[.pointer (some ⟨b, 0, none⟩)], .func (.func 88) #[] #[.pointer (some ⟨b, 0, none⟩)]] ∧ w.cell? ⟨b, 0, none⟩ = some (.pointer (some ⟨g, off, none⟩)) ∧ base ≤ b ∧ b < w.heap.size ∧ w.cell? ⟨(b + 1), 0, none⟩ = some (.func (.func 71) #[] #[.pointer (some ⟨c, 0, none⟩)]) ∧ base ≤ (b + 1) ∧ (b + 1) < w.heap.size ∧ w.cell? ⟨c, 0, none⟩ = some (.bool s) ∧ base ≤ c ∧ c < w.heap.size
theorem OrgE.below {w w' : World} {base : Nat} {cs : Array Value} {num : Int} {g off : Nat} {s : Bool} (hb : Below w.heap.size w w') (k : OrgE w base cs num g off s) : OrgE w' base cs num g off s := by
  obtain ⟨b, c, e, h0, g0, l0, h1, g1, l1, h2, g2, l2⟩ := k
  have z := hb.size
  exact ⟨b, c, e, (hb.cell (p := ⟨b, 0, none⟩) l0).trans h0, g0, by omega, (hb.cell (p := ⟨(b + 1), 0, none⟩) l1).trans h1, g1, by omega, (hb.cell (p := ⟨c, 0, none⟩) l2).trans h2, g2, by omega⟩
theorem OrgE.only {w w' : World} {base q : Nat} {cs : Array Value} {num : Int} {g off : Nat} {s : Bool} (hb : Only (some q) w w') (hq : q < base) (k : OrgE w base cs num g off s) : OrgE w' base cs num g off s := by
  obtain ⟨b, c, e, h0, g0, l0, h1, g1, l1, h2, g2, l2⟩ := k
  have z := hb.size
  exact ⟨b, c, e, (only_cellE hb (by omega)).trans h0, g0, by omega, (only_cellE hb (by omega)).trans h1, g1, by omega, (only_cellE hb (by omega)).trans h2, g2, by omega⟩
theorem OrgE.mono {w : World} {base base' : Nat} {cs : Array Value} {num : Int} {g off : Nat} {s : Bool} (hb : base' ≤ base) (k : OrgE w base cs num g off s) : OrgE w base' cs num g off s := by
  obtain ⟨b, c, e, h0, g0, l0, h1, g1, l1, h2, g2, l2⟩ := k
  exact ⟨b, c, e, h0, by omega, l0, h1, by omega, l1, h2, by omega, l2⟩
/-- The five cells of such an entry, and what its functions have hold of. -/
def TokE (w : World) (base : Nat) (cs : Array Value) (num : Int) (g off : Nat) (s : Bool) : Prop :=
  ∃ b c d x : Nat, cs = #[.int .i64 num, .func (.func 86) #[] #[.pointer (some ⟨(b + 1), 0, none⟩), .pointer (some ⟨b, 0, none⟩)], .func (.func 79) #[] #[.pointer (some ⟨c, 0, none⟩)], .func (.func 87) #[] #[.pointer (some ⟨b, 0, none⟩)], .func (.func 80) #[] #[.pointer (some ⟨c, 0, none⟩), .pointer (some ⟨x, 0, none⟩)]] ∧ w.cell? ⟨b, 0, none⟩ = some (.pointer (some ⟨g, off, none⟩)) ∧ base ≤ b ∧ b < w.heap.size ∧ w.cell? ⟨(b + 1), 0, none⟩ = some (.func (.func 78) #[] #[.pointer (some ⟨d, 0, none⟩)]) ∧ base ≤ (b + 1) ∧ (b + 1) < w.heap.size ∧ w.cell? ⟨c, 0, none⟩ = some (.pointer (some ⟨g, off, none⟩)) ∧ base ≤ c ∧ c < w.heap.size ∧ w.cell? ⟨d, 0, none⟩ = some (.bool s) ∧ base ≤ d ∧ d < w.heap.size ∧ w.cell? ⟨x, 0, none⟩ = some (.func (.func 79) #[] #[.pointer (some ⟨c, 0, none⟩)]) ∧ base ≤ x ∧ x < w.heap.size
theorem TokE.below {w w' : World} {base : Nat} {cs : Array Value} {num : Int} {g off : Nat} {s : Bool} (hb : Below w.heap.size w w') (k : TokE w base cs num g off s) : TokE w' base cs num g off s := by
  obtain ⟨b, c, d, x, e, h0, g0, l0, h1, g1, l1, h2, g2, l2, h3, g3, l3, h4, g4, l4⟩ := k
  have z := hb.size
  exact ⟨b, c, d, x, e, (hb.cell (p := ⟨b, 0, none⟩) l0).trans h0, g0, by omega, (hb.cell (p := ⟨(b + 1), 0, none⟩) l1).trans h1, g1, by omega, (hb.cell (p := ⟨c, 0, none⟩) l2).trans h2, g2, by omega, (hb.cell (p := ⟨d, 0, none⟩) l3).trans h3, g3, by omega, (hb.cell (p := ⟨x, 0, none⟩) l4).trans h4, g4, by omega⟩
theorem TokE.only {w w' : World} {base q : Nat} {cs : Array Value} {num : Int} {g off : Nat} {s : Bool} (hb : Only (some q) w w') (hq : q < base) (k : TokE w base cs num g off s) : TokE w' base cs num g off s := by
  obtain ⟨b, c, d, x, e, h0, g0, l0, h1, g1, l1, h2, g2, l2, h3, g3, l3, h4, g4, l4⟩ := k
  have z := hb.size
  exact ⟨b, c, d, x, e, (only_cellE hb (by omega)).trans h0, g0, by omega, (only_cellE hb (by omega)).trans h1, g1, by omega, (only_cellE hb (by omega)).trans h2, g2, by omega, (only_cellE hb (by omega)).trans h3, g3, by omega, (only_cellE hb (by omega)).trans h4, g4, by omega⟩
theorem TokE.mono {w : World} {base base' : Nat} {cs : Array Value} {num : Int} {g off : Nat} {s : Bool} (hb : base' ≤ base) (k : TokE w base cs num g off s) : TokE w base' cs num g off s := by
  obtain ⟨b, c, d, x, e, h0, g0, l0, h1, g1, l1, h2, g2, l2, h3, g3, l3, h4, g4, l4⟩ := k
  exact ⟨b, c, d, x, e, h0, by omega, l0, h1, by omega, l1, h2, by omega, l2, h3, by omega, l3, h4, by omega, l4⟩
/-- The five cells of such an entry, and what its functions have hold of. -/
def FlgE (w : World) (base : Nat) (cs : Array Value) (num : Int) (g off : Nat) : Prop :=
  ∃ b : Nat, cs = #[.int .i64 num, .func (.func 74) #[] #[], .func (.func 81) #[] #[.pointer (some ⟨b, 0, none⟩)], .func (.func 82) #[] #[], .func (.func 83) #[] #[.pointer (some ⟨b, 0, none⟩)]] ∧ w.cell? ⟨b, 0, none⟩ = some (.pointer (some ⟨g, off, none⟩)) ∧ base ≤ b ∧ b < w.heap.size
theorem FlgE.below {w w' : World} {base : Nat} {cs : Array Value} {num : Int} {g off : Nat} (hb : Below w.heap.size w w') (k : FlgE w base cs num g off) : FlgE w' base cs num g off := by
  obtain ⟨b, e, h0, g0, l0⟩ := k
  have z := hb.size
  exact ⟨b, e, (hb.cell (p := ⟨b, 0, none⟩) l0).trans h0, g0, by omega⟩
theorem FlgE.only {w w' : World} {base q : Nat} {cs : Array Value} {num : Int} {g off : Nat} (hb : Only (some q) w w') (hq : q < base) (k : FlgE w base cs num g off) : FlgE w' base cs num g off := by
  obtain ⟨b, e, h0, g0, l0⟩ := k
  have z := hb.size
  exact ⟨b, e, (only_cellE hb (by omega)).trans h0, g0, by omega⟩
theorem FlgE.mono {w : World} {base base' : Nat} {cs : Array Value} {num : Int} {g off : Nat} (hb : base' ≤ base) (k : FlgE w base cs num g off) : FlgE w base' cs num g off := by
  obtain ⟨b, e, h0, g0, l0⟩ := k
  exact ⟨b, e, h0, by omega, l0⟩
theorem newAt1 (w : World) (o : Obj) (k : Nat) (h : w.heap.size = k) : (w.alloc o).heap[k]? = some o := by subst h; exact heap_alloc_new w o
theorem cell_new {w : World} {v : Value} {t : TypeId} {g : Nat} (h : w.heap[g]? = some (.cells #[v] t (0, 0))) : w.cell? ⟨g, 0, none⟩ = some v := by rw [bk_cell h]; rfl
abbrev Enz : Obj := .cells #[.int .i64 0, .nilFunc, .nilFunc, .nilFunc, .nilFunc] 78 (0, 0)
theorem ent_end {W w3 : World} {o : Obj} {k : Nat} (hk : W.heap.size = k) (m3 : Only (some k) (W.alloc o) w3) : Below W.heap.size W w3 := by
  subst hk
  refine ((Below.refl _ _).alloc (Nat.le_refl _) o).trans ⟨m3.os, m3.tape, m3.output, Nat.le_of_eq m3.size.symm, fun k hk => m3.block k (fun e => ?_)⟩
  have := Option.some.inj e
  omega
/-- Blocks of one cell, laid one behind the other. -/
theorem laid1 (w : World) (v : Value) (t : TypeId) : (w.alloc (.cells #[v] t)).cell? ⟨w.heap.size, 0, none⟩ = some v := cell_new (t := t) (newAt1 _ _ _ rfl)

set_option maxRecDepth 20000 in
theorem numEntryC (num : Int) (g off : Nat) (l h : Int) (w : World) :
    Calls Tryd.prog 61 #[.int .i64 num, .pointer (some ⟨g, off, none⟩), .int .i64 l, .int .i64 h] w fun e w' => ∃ cs, e = .returned (.agg cs) ∧ NumE w' w.heap.size cs num g off l h ∧ Below w.heap.size w w' := by
  obtain ⟨w1, e1⟩ : ∃ w1, w1 = ((w.alloc (.cells #[.pointer (some ⟨g, off, none⟩)] 88)).alloc (.cells #[.int .i64 l] 3)).alloc (.cells #[.int .i64 h] 3) := ⟨_, rfl⟩
  have s1 : w1.heap.size = w.heap.size + 3 := by rw [e1]; simp
  have b1 : Below w.heap.size w w1 := by rw [e1]; exact (((Below.refl _ _).alloc (Nat.le_refl _) _).alloc (by simp) _).alloc (by simp; omega) _
  have c0 : w1.cell? ⟨w.heap.size, 0, none⟩ = some (.pointer (some ⟨g, off, none⟩)) := by
    rw [e1]; refine cell_new (t := 88) ?_
    rw [Below.heap_alloc _ _ _ (by simp; omega), Below.heap_alloc _ _ _ (by simp)]; exact newAt1 _ _ _ rfl
  have c1 : w1.cell? ⟨w.heap.size + 1, 0, none⟩ = some (.int .i64 l) := by
    rw [e1]; refine cell_new (t := 3) ?_
    rw [Below.heap_alloc _ _ _ (by simp)]; exact newAt1 _ _ _ (by simp)
  have c2 : w1.cell? ⟨w.heap.size + 2, 0, none⟩ = some (.int .i64 h) := by
    rw [e1]; refine cell_new (t := 3) ?_
    exact newAt1 _ _ _ (by simp)
  have H0 : Hid _ := And.intro e1 (And.intro s1 (And.intro b1 (And.intro c0 (And.intro c1 c2))))
  clear e1 s1 b1 c0 c1 c2
  go_enter Tryd.func61, Tryd.ntmps61
  go_wp2_with (refine wpList_store_atE rfl 78 (.tmp 8) (.tmp 13) rfl (w.heap.size + 1 + 1 + 1) _ rfl rfl 78 _ (newAt1 _ _ _ (by simp)) infoEn rfl (by simp [Value.oneCell']) ?_; intro w3 h3 m3)
  rw [← H0.out.1] at m3
  have B3 := ent_end (H0.out.2.1) m3
  try simp only [Exit.inBlock, Exit.then]
  refine bodyPost_ret (v := .agg #[.int .i64 num, .func (.func 73) #[] #[.pointer (some ⟨w.heap.size, 0, none⟩), .pointer (some ⟨w.heap.size + 1, 0, none⟩), .pointer (some ⟨w.heap.size + 2, 0, none⟩)], .func (.func 74) #[] #[], .func (.func 75) #[] #[.pointer (some ⟨w.heap.size, 0, none⟩)], .func (.func 76) #[] #[.pointer (some ⟨w.heap.size, 0, none⟩)]]) ?_ rfl ?_
  · exact results_cell_row (t := 78) rfl _ _ (w.heap.size + 1 + 1 + 1) _ (fr := (0, 0)) _ rfl h3 Tryd.underlying78 rfl infoEn
  · have z := H0.out.2.1
    exact ⟨_, rfl, NumE.below B3 ⟨w.heap.size, rfl, H0.out.2.2.2.1, by omega, by omega, H0.out.2.2.2.2.1, by omega, by omega, H0.out.2.2.2.2.2, by omega, by omega⟩, H0.out.2.2.1.trans (B3.mono H0.out.2.2.1.size)⟩

set_option maxRecDepth 20000 in
theorem lstEntryC (num : Int) (g off : Nat) (fn : Nat) (cp : Array Value) (w : World) :
    Calls Tryd.prog 70 #[.int .i64 num, .pointer (some ⟨g, off, none⟩), .func (.func fn) #[] cp] w fun e w' => ∃ cs, e = .returned (.agg cs) ∧ LstE w' w.heap.size cs num g off (.func (.func fn) #[] cp) ∧ Below w.heap.size w w' := by
  obtain ⟨w1, e1⟩ : ∃ w1, w1 = (w.alloc (.cells #[.pointer (some ⟨g, off, none⟩)] 86)).alloc (.cells #[.func (.func fn) #[] cp] 59) := ⟨_, rfl⟩
  have s1 : w1.heap.size = w.heap.size + 2 := by rw [e1]; simp
  have b1 : Below w.heap.size w w1 := by rw [e1]; exact ((Below.refl _ _).alloc (Nat.le_refl _) _).alloc (by simp) _
  have c0 : w1.cell? ⟨w.heap.size, 0, none⟩ = some (.pointer (some ⟨g, off, none⟩)) := by
    rw [e1]; refine cell_new (t := 86) ?_
    rw [Below.heap_alloc _ _ _ (by simp)]; exact newAt1 _ _ _ rfl
  have c1 : w1.cell? ⟨w.heap.size + 1, 0, none⟩ = some (.func (.func fn) #[] cp) := by
    rw [e1]; refine cell_new (t := 59) ?_
    exact newAt1 _ _ _ (by simp)
  have H0 : Hid _ := And.intro e1 (And.intro s1 (And.intro b1 (And.intro c0 c1)))
  clear e1 s1 b1 c0 c1
  go_enter Tryd.func70, Tryd.ntmps70
  go_wp2_with (refine wpList_store_atE rfl 78 (.tmp 6) (.tmp 11) rfl (w.heap.size + 1 + 1) _ rfl rfl 78 _ (newAt1 _ _ _ (by simp)) infoEn rfl (by simp [Value.oneCell']) ?_; intro w3 h3 m3)
  rw [← H0.out.1] at m3
  have B3 := ent_end (H0.out.2.1) m3
  try simp only [Exit.inBlock, Exit.then]
  refine bodyPost_ret (v := .agg #[.int .i64 num, .func (.func 86) #[] #[.pointer (some ⟨w.heap.size + 1, 0, none⟩), .pointer (some ⟨w.heap.size, 0, none⟩)], .func (.func 74) #[] #[], .func (.func 87) #[] #[.pointer (some ⟨w.heap.size, 0, none⟩)], .func (.func 88) #[] #[.pointer (some ⟨w.heap.size, 0, none⟩)]]) ?_ rfl ?_
  · exact results_cell_row (t := 78) rfl _ _ (w.heap.size + 1 + 1) _ (fr := (0, 0)) _ rfl h3 Tryd.underlying78 rfl infoEn
  · have z := H0.out.2.1
    exact ⟨_, rfl, LstE.below B3 ⟨w.heap.size, rfl, H0.out.2.2.2.1, by omega, by omega, H0.out.2.2.2.2, by omega, by omega⟩, H0.out.2.2.1.trans (B3.mono H0.out.2.2.1.size)⟩

set_option maxRecDepth 20000 in
theorem flgEntryC (num : Int) (g off : Nat) (w : World) :
    Calls Tryd.prog 63 #[.int .i64 num, .pointer (some ⟨g, off, none⟩)] w fun e w' => ∃ cs, e = .returned (.agg cs) ∧ FlgE w' w.heap.size cs num g off ∧ Below w.heap.size w w' := by
  obtain ⟨w1, e1⟩ : ∃ w1, w1 = w.alloc (.cells #[.pointer (some ⟨g, off, none⟩)] 90) := ⟨_, rfl⟩
  have s1 : w1.heap.size = w.heap.size + 1 := by rw [e1]; simp
  have b1 : Below w.heap.size w w1 := by rw [e1]; exact (Below.refl _ _).alloc (Nat.le_refl _) _
  have c0 : w1.cell? ⟨w.heap.size, 0, none⟩ = some (.pointer (some ⟨g, off, none⟩)) := by rw [e1]; exact laid1 _ _ _
  have H0 : Hid _ := And.intro e1 (And.intro s1 (And.intro b1 c0))
  clear e1 s1 b1 c0
  go_enter Tryd.func63, Tryd.ntmps63
  go_wp2_with (refine wpList_store_atE rfl 78 (.tmp 4) (.tmp 8) rfl (w.heap.size + 1) _ rfl rfl 78 _ (newAt1 _ _ _ (by simp)) infoEn rfl (by simp [Value.oneCell']) ?_; intro w3 h3 m3)
  rw [← H0.out.1] at m3
  have B3 := ent_end (H0.out.2.1) m3
  try simp only [Exit.inBlock, Exit.then]
  refine bodyPost_ret (v := .agg #[.int .i64 num, .func (.func 74) #[] #[], .func (.func 81) #[] #[.pointer (some ⟨w.heap.size, 0, none⟩)], .func (.func 82) #[] #[], .func (.func 83) #[] #[.pointer (some ⟨w.heap.size, 0, none⟩)]]) ?_ rfl ?_
  · exact results_cell_row (t := 78) rfl _ _ (w.heap.size + 1) _ (fr := (0, 0)) _ rfl h3 Tryd.underlying78 rfl infoEn
  · have z := H0.out.2.1
    exact ⟨_, rfl, FlgE.below B3 ⟨w.heap.size, rfl, H0.out.2.2.2, by omega, by omega⟩, H0.out.2.2.1.trans (B3.mono H0.out.2.2.1.size)⟩

theorem below_only {B q : Nat} {w w' : World} (h : Only (some q) w w') (hq : B ≤ q) : Below B w w' :=
  ⟨h.os, h.tape, h.output, Nat.le_of_eq h.size.symm, fun k hk => h.block k (fun e => by have := Option.some.inj e; omega)⟩
set_option maxRecDepth 20000 in
theorem fstEntryC (num : Int) (g off : Nat) (w : World) :
    Calls Tryd.prog 64 #[.int .i64 num, .pointer (some ⟨g, off, none⟩)] w fun e w' => ∃ cs, e = .returned (.agg cs) ∧ LstE w' w.heap.size cs num g off (.func (.func 84) #[] #[]) ∧ Below w.heap.size w w' := by
  have b0 := (Below.refl w.heap.size w).alloc (Nat.le_refl _) Enz
  have H0 : Hid _ := And.intro (lstEntryC num g off 84 #[] (w.alloc Enz)) b0
  clear b0
  go_enter Tryd.func64, Tryd.ntmps64
  go_wp2_with fail
  go_at_call 70
  refine H0.out.1.mono ?_
  rintro e w1 ⟨cs, rfl, hE, b1⟩
  rw [World.size_alloc] at hE
  obtain ⟨b, rfl, k⟩ := hE
  have g1 : w1.heap[w.heap.size]? = some Enz := (b1.block w.heap.size (by simp)).trans (heap_alloc_new w _)
  have H1 : Hid _ := And.intro (show LstE w1 (w.heap.size + 1) _ num g off (.func (.func 84) #[] #[]) from ⟨b, rfl, k⟩) (And.intro g1 (H0.out.2.trans (b1.mono H0.out.2.size)))
  clear k b1 g1
  go_wp2_with (refine wpList_store_atE rfl 78 (.tmp 4) (.tmp 7) rfl w.heap.size _ rfl rfl 78 _ H1.out.2.1 infoEn rfl (by simp [Value.oneCell']) ?_; intro w3 h3 m3)
  try simp only [Exit.inBlock, Exit.then]
  refine bodyPost_ret (v := .agg #[.int .i64 num, .func (.func 86) #[] #[.pointer (some ⟨b + 1, 0, none⟩), .pointer (some ⟨b, 0, none⟩)], .func (.func 74) #[] #[], .func (.func 87) #[] #[.pointer (some ⟨b, 0, none⟩)], .func (.func 88) #[] #[.pointer (some ⟨b, 0, none⟩)]]) ?_ rfl ?_
  · exact results_cell_row (t := 78) rfl _ _ w.heap.size _ (fr := (0, 0)) _ rfl h3 Tryd.underlying78 rfl infoEn
  · exact ⟨_, rfl, (LstE.only m3 (by omega) H1.out.1).mono (by omega), H1.out.2.2.trans (below_only m3 (Nat.le_refl _))⟩
set_option maxRecDepth 20000 in
theorem orgEntryC (num : Int) (g off : Nat) (s : Bool) (w : World) :
    Calls Tryd.prog 60 #[.int .i64 num, .pointer (some ⟨g, off, none⟩), .bool s] w fun e w' => ∃ cs, e = .returned (.agg cs) ∧ OrgE w' w.heap.size cs num g off s ∧ Below w.heap.size w w' := by
  have b0 := ((Below.refl w.heap.size w).alloc (Nat.le_refl _) (.cells #[.bool s] 4)).alloc (by simp) Enz
  have s0 : ((w.alloc (.cells #[.bool s] 4)).alloc Enz).heap.size = w.heap.size + 2 := by simp
  have c0 : ((w.alloc (.cells #[.bool s] 4)).alloc Enz).cell? ⟨w.heap.size, 0, none⟩ = some (.bool s) := by
    refine cell_new (t := 4) ?_
    rw [Below.heap_alloc _ _ _ (by simp)]; exact newAt1 _ _ _ rfl
  have g0 : ((w.alloc (.cells #[.bool s] 4)).alloc Enz).heap[w.heap.size + 1]? = some Enz := newAt1 _ _ _ (by simp)
  have H0 : Hid _ := And.intro (lstEntryC num g off 71 #[.pointer (some ⟨w.heap.size, 0, none⟩)] ((w.alloc (.cells #[.bool s] 4)).alloc Enz)) (And.intro b0 (And.intro s0 (And.intro c0 g0)))
  clear b0 s0 c0 g0
  go_enter Tryd.func60, Tryd.ntmps60
  go_wp2_with fail
  go_at_call 70
  refine H0.out.1.mono ?_
  rintro e w1 ⟨cs, rfl, hE, b1⟩
  have z0 := H0.out.2.2.1
  rw [z0] at hE
  obtain ⟨b, rfl, k1, k2, k3, k4, k5, k6⟩ := hE
  have z1 := b1.size
  rw [z0] at z1
  have g1 : w1.heap[w.heap.size + 1]? = some Enz := (b1.block _ (by rw [z0]; omega)).trans H0.out.2.2.2.2
  have c1 : w1.cell? ⟨w.heap.size, 0, none⟩ = some (.bool s) := (b1.cell (p := ⟨w.heap.size, 0, none⟩) (by show w.heap.size < _; rw [z0]; omega)).trans H0.out.2.2.2.1
  have H1 : Hid _ := And.intro (And.intro k1 (And.intro k2 (And.intro k3 (And.intro k4 (And.intro k5 (And.intro k6 c1)))))) (And.intro g1 (And.intro (H0.out.2.1.trans (b1.mono H0.out.2.1.size)) z1))
  clear k1 k2 k3 k4 k5 k6 b1 g1 c1 z0 z1
  go_wp2_with (first
    | (refine wpList_store_atE rfl 78 (.tmp 7) (.tmp 11) rfl w1.heap.size _ rfl rfl 78 _ (newAt1 _ _ _ rfl) infoEn rfl (by simp [Value.oneCell']) ?_; intro w2 h2 m2; have f2 := bk_free h2 2; have d0 : w2.cell? ⟨w1.heap.size, 0, none⟩ = some (.int .i64 num) := (by rw [bk_cell h2]; rfl); have d1 : w2.cell? ⟨w1.heap.size, 1, none⟩ = some (.func (.func 86) #[] #[.pointer (some ⟨b + 1, 0, none⟩), .pointer (some ⟨b, 0, none⟩)]) := (by rw [bk_cell h2]; rfl); have d2 : w2.cell? ⟨w1.heap.size, 2, none⟩ = some (.func (.func 74) #[] #[]) := (by rw [bk_cell h2]; rfl); have d3 : w2.cell? ⟨w1.heap.size, 3, none⟩ = some (.func (.func 87) #[] #[.pointer (some ⟨b, 0, none⟩)]) := (by rw [bk_cell h2]; rfl); have d4 : w2.cell? ⟨w1.heap.size, 4, none⟩ = some (.func (.func 88) #[] #[.pointer (some ⟨b, 0, none⟩)]) := (by rw [bk_cell h2]; rfl))
    | (refine wpList_store_atE rfl 78 (.tmp 6) (.tmp 14) rfl (w.heap.size + 1) _ rfl rfl 78 _ ((bk_other (by have := H1.out.2.2.2; omega) 2 _).trans ((m2.block (w.heap.size + 1) (fun e => by have := Option.some.inj e; have := H1.out.2.2.2; omega)).trans ((Below.heap_alloc _ _ _ (by have := H1.out.2.2.2; omega)).trans H1.out.2.1))) infoEn rfl (by simp [Value.oneCell']) ?_; intro w3 h3 m3))
  have z1 := H1.out.2.2.2
  have O2 := Only.setCell (w := w2) ⟨w1.heap.size, 2, none⟩ (.func (.func 72) #[] #[.pointer (some ⟨w.heap.size, 0, none⟩)])
  have B2 := ent_end rfl (m2.trans O2)
  have E : OrgE w3 w.heap.size #[.int .i64 num, .func (.func 86) #[] #[.pointer (some ⟨b + 1, 0, none⟩), .pointer (some ⟨b, 0, none⟩)], .func (.func 72) #[] #[.pointer (some ⟨w.heap.size, 0, none⟩)], .func (.func 87) #[] #[.pointer (some ⟨b, 0, none⟩)], .func (.func 88) #[] #[.pointer (some ⟨b, 0, none⟩)]] num g off s := by
    obtain ⟨k1, k2, k3, k4, k5, k6, c1⟩ := H1.out.1
    have z2 := B2.size
    have z3 := m3.size
    have kk : ∀ a, a ≠ w.heap.size + 1 → a < w1.heap.size → ∀ v, w1.cell? ⟨a, 0, none⟩ = some v → w3.cell? ⟨a, 0, none⟩ = some v := fun a h1 h2 v h => (only_cellE m3 h1).trans ((B2.cell (p := ⟨a, 0, none⟩) h2).trans h)
    exact ⟨b, w.heap.size, rfl, kk _ (by omega) (by omega) _ k1, by omega, by omega, kk _ (by omega) (by omega) _ k4, by omega, by omega, kk _ (by omega) (by omega) _ c1, by omega, by omega⟩
  try simp only [Exit.inBlock, Exit.then]
  refine bodyPost_ret (v := .agg #[.int .i64 num, .func (.func 86) #[] #[.pointer (some ⟨b + 1, 0, none⟩), .pointer (some ⟨b, 0, none⟩)], .func (.func 72) #[] #[.pointer (some ⟨w.heap.size, 0, none⟩)], .func (.func 87) #[] #[.pointer (some ⟨b, 0, none⟩)], .func (.func 88) #[] #[.pointer (some ⟨b, 0, none⟩)]]) ?_ rfl ?_
  · exact results_cell_row (t := 78) rfl _ _ (w.heap.size + 1) _ (fr := (0, 0)) _ rfl h3 Tryd.underlying78 rfl infoEn
  · exact ⟨_, rfl, E, (H1.out.2.2.1.trans (B2.mono H1.out.2.2.1.size)).trans (below_only m3 (by omega))⟩

set_option maxRecDepth 20000 in
theorem tokEntryC (num : Int) (g off : Nat) (s : Bool) (w : World) :
    Calls Tryd.prog 62 #[.int .i64 num, .pointer (some ⟨g, off, none⟩), .bool s] w fun e w' => ∃ cs, e = .returned (.agg cs) ∧ TokE w' w.heap.size cs num g off s ∧ Below w.heap.size w w' := by
  obtain ⟨wa, ea⟩ : ∃ wa, wa = ((w.alloc (.cells #[.pointer (some ⟨g, off, none⟩)] 86)).alloc (.cells #[.bool s] 4)).alloc Enz := ⟨_, rfl⟩
  have s0 : wa.heap.size = w.heap.size + 3 := by rw [ea]; simp
  have b0 : Below w.heap.size w wa := by rw [ea]; exact (((Below.refl _ _).alloc (Nat.le_refl _) _).alloc (by simp) _).alloc (by simp; omega) _
  have c0 : wa.cell? ⟨w.heap.size, 0, none⟩ = some (.pointer (some ⟨g, off, none⟩)) := by
    rw [ea]; refine cell_new (t := 86) ?_
    rw [Below.heap_alloc _ _ _ (by simp; omega), Below.heap_alloc _ _ _ (by simp)]; exact newAt1 _ _ _ rfl
  have c1 : wa.cell? ⟨w.heap.size + 1, 0, none⟩ = some (.bool s) := by
    rw [ea]; refine cell_new (t := 4) ?_
    rw [Below.heap_alloc _ _ _ (by simp)]; exact newAt1 _ _ _ (by simp)
  have g0 : wa.heap[w.heap.size + 2]? = some Enz := by rw [ea]; exact newAt1 _ _ _ (by simp)
  have C := lstEntryC num g off 78 #[.pointer (some ⟨w.heap.size + 1, 0, none⟩)] wa
  have H0 : Hid _ := And.intro C (And.intro b0 (And.intro s0 (And.intro c0 (And.intro c1 (And.intro g0 ea)))))
  clear b0 s0 c0 c1 g0 C ea
  go_enter Tryd.func62, Tryd.ntmps62
  go_wp2_with fail
  rw [← H0.out.2.2.2.2.2.2]
  go_at_call 70
  refine H0.out.1.mono ?_
  rintro e w1 ⟨cs, rfl, hE, b1⟩
  have z0 := H0.out.2.2.1
  rw [z0] at hE
  obtain ⟨b, rfl, k1, k2, k3, k4, k5, k6⟩ := hE
  have z1 := b1.size
  rw [z0] at z1
  have g1 : w1.heap[w.heap.size + 2]? = some Enz := (b1.block _ (by rw [z0]; omega)).trans H0.out.2.2.2.2.2.1
  have c0 : w1.cell? ⟨w.heap.size, 0, none⟩ = some (.pointer (some ⟨g, off, none⟩)) := (b1.cell (p := ⟨w.heap.size, 0, none⟩) (by show w.heap.size < _; rw [z0]; omega)).trans H0.out.2.2.2.1
  have c1 : w1.cell? ⟨w.heap.size + 1, 0, none⟩ = some (.bool s) := (b1.cell (p := ⟨w.heap.size + 1, 0, none⟩) (by show w.heap.size + 1 < _; rw [z0]; omega)).trans H0.out.2.2.2.2.1
  have H1 : Hid _ := And.intro (And.intro k1 (And.intro k2 (And.intro k3 (And.intro k4 (And.intro k5 (And.intro k6 (And.intro c0 c1))))))) (And.intro g1 (And.intro (H0.out.2.1.trans (b1.mono H0.out.2.1.size)) z1))
  clear k1 k2 k3 k4 k5 k6 b1 g1 c0 c1 z0 z1
  go_wp2_with (refine wpList_store_atE rfl 78 (.tmp 6) (.tmp 18) rfl (w.heap.size + 1 + 1) _ rfl rfl 78 _ ((Below.heap_alloc _ _ _ (by have := H1.out.2.2.2; simp; omega)).trans ((Below.heap_alloc _ _ _ (by have := H1.out.2.2.2; omega)).trans H1.out.2.1)) infoEn rfl (by simp [Value.oneCell']) ?_; intro w3 h3 m3)
  have z1 := H1.out.2.2.2
  obtain ⟨w2, e2⟩ : ∃ w2, w2 = (w1.alloc (.cells #[.int .i64 num, .func (.func 86) #[] #[.pointer (some ⟨b + 1, 0, none⟩), .pointer (some ⟨b, 0, none⟩)], .func (.func 79) #[] #[.pointer (some ⟨w.heap.size, 0, none⟩)], .func (.func 87) #[] #[.pointer (some ⟨b, 0, none⟩)], .func (.func 80) #[] #[.pointer (some ⟨w.heap.size, 0, none⟩), .pointer (some ⟨w1.heap.size + 1, 0, none⟩)]] 78)).alloc (.cells #[.func (.func 79) #[] #[.pointer (some ⟨w.heap.size, 0, none⟩)]] 74) := ⟨_, rfl⟩
  rw [← e2] at m3
  have B2 : Below w1.heap.size w1 w2 := by rw [e2]; exact ((Below.refl _ _).alloc (Nat.le_refl _) _).alloc (by simp) _
  have s2 : w2.heap.size = w1.heap.size + 2 := by rw [e2]; simp
  have x2 : w2.cell? ⟨w1.heap.size + 1, 0, none⟩ = some (.func (.func 79) #[] #[.pointer (some ⟨w.heap.size, 0, none⟩)]) := by rw [e2]; exact cell_new (t := 74) (newAt1 _ _ _ (by simp))
  have E : TokE w3 w.heap.size #[.int .i64 num, .func (.func 86) #[] #[.pointer (some ⟨b + 1, 0, none⟩), .pointer (some ⟨b, 0, none⟩)], .func (.func 79) #[] #[.pointer (some ⟨w.heap.size, 0, none⟩)], .func (.func 87) #[] #[.pointer (some ⟨b, 0, none⟩)], .func (.func 80) #[] #[.pointer (some ⟨w.heap.size, 0, none⟩), .pointer (some ⟨w1.heap.size + 1, 0, none⟩)]] num g off s := by
    obtain ⟨k1, k2, k3, k4, k5, k6, c0, c1⟩ := H1.out.1
    have z3 := m3.size
    have kk : ∀ a, a ≠ w.heap.size + 1 + 1 → a < w1.heap.size → ∀ v, w1.cell? ⟨a, 0, none⟩ = some v → w3.cell? ⟨a, 0, none⟩ = some v := fun a h1 h2 v h => (only_cellE m3 h1).trans ((B2.cell (p := ⟨a, 0, none⟩) h2).trans h)
    exact ⟨b, w.heap.size, w.heap.size + 1, w1.heap.size + 1, rfl, kk _ (by omega) (by omega) _ k1, by omega, by omega, kk _ (by omega) (by omega) _ k4, by omega, by omega, kk _ (by omega) (by omega) _ c0, by omega, by omega, kk _ (by omega) (by omega) _ c1, by omega, by omega, (only_cellE m3 (by omega)).trans x2, by omega, by omega⟩
  try simp only [Exit.inBlock, Exit.then]
  refine bodyPost_ret (v := .agg #[.int .i64 num, .func (.func 86) #[] #[.pointer (some ⟨b + 1, 0, none⟩), .pointer (some ⟨b, 0, none⟩)], .func (.func 79) #[] #[.pointer (some ⟨w.heap.size, 0, none⟩)], .func (.func 87) #[] #[.pointer (some ⟨b, 0, none⟩)], .func (.func 80) #[] #[.pointer (some ⟨w.heap.size, 0, none⟩), .pointer (some ⟨w1.heap.size + 1, 0, none⟩)]]) ?_ rfl ?_
  · exact results_cell_row (t := 78) rfl _ _ (w.heap.size + 1 + 1) _ (fr := (0, 0)) _ rfl h3 Tryd.underlying78 rfl infoEn
  · exact ⟨_, rfl, E, (H1.out.2.2.1.trans (B2.mono H1.out.2.2.1.size)).trans (below_only m3 (by omega))⟩

end Go.Proofs.YtcljchbceeiheaaDoor
