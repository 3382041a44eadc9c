import Derived.Test.YtbbiinbjgognjaaDoorPkC
import Derived.Laws.Rows
namespace Go.Proofs.YtbbiinbjgognjaaDoor
open Go.RowKit
set_option linter.unusedVariables false

theorem results_row_tmp {P : Program} {fn : Func} {p q : Tmp} {ty : TypeId} (h : fn.results = #[.cell p ty, .tmp q]) (tmps : Array Value) (w : World) (g : Nat) (t : TypeId) (cs : Array Value) (fr : Nat × Nat) (d : TypeDesc) (u : Value)
    (hp : tmps.getD p undef = .pointer (some ⟨g, 0, none⟩)) (hq : tmps.getD q undef = u) (hg : w.heap[g]? = some (.cells cs t fr))
    (hu : P.underlying ty = some d) (hd : (match d with | .struct _ | .array _ _ => true | _ => false) = true) (hi : (P.info? ty).map (·.size) = some cs.size) :
    (results fn tmps).run P w = .ok (.tuple #[.agg cs, u]) w := by
  have hp' : tmps[p]?.getD undef = .pointer (some ⟨g, 0, none⟩) := by simpa using hp
  have hq' : tmps[q]?.getD undef = u := by simpa using hq
  simp [results, h, hp', hq', asAddr, run_loadVar_row w g t ty cs fr d hg hu hd hi]
theorem newAt (w : World) (o : Obj) (k : Nat) (h : w.heap.size = k) : (w.alloc o).heap[k]? = some o := by subst h; exact heap_alloc_new w o
theorem six_blocks (w : World) (o0 o1 o2 o3 o4 o5 : Obj) :
    ((((((w.alloc o0).alloc o1).alloc o2).alloc o3).alloc o4).alloc o5).heap[w.heap.size]? = some o0 ∧ ((((((w.alloc o0).alloc o1).alloc o2).alloc o3).alloc o4).alloc o5).heap[w.heap.size + 1]? = some o1 ∧
    ((((((w.alloc o0).alloc o1).alloc o2).alloc o3).alloc o4).alloc o5).heap[w.heap.size + 2]? = some o2 ∧ ((((((w.alloc o0).alloc o1).alloc o2).alloc o3).alloc o4).alloc o5).heap[w.heap.size + 3]? = some o3 ∧
    ((((((w.alloc o0).alloc o1).alloc o2).alloc o3).alloc o4).alloc o5).heap[w.heap.size + 4]? = some o4 ∧ ((((((w.alloc o0).alloc o1).alloc o2).alloc o3).alloc o4).alloc o5).heap[w.heap.size + 5]? = some o5 := by
  refine ⟨?_, ?_, ?_, ?_, ?_, ?_⟩
  · rw [Below.heap_alloc _ _ _ (by first | (simp; done) | (simp; omega)), Below.heap_alloc _ _ _ (by first | (simp; done) | (simp; omega)), Below.heap_alloc _ _ _ (by first | (simp; done) | (simp; omega)), Below.heap_alloc _ _ _ (by first | (simp; done) | (simp; omega)), Below.heap_alloc _ _ _ (by first | (simp; done) | (simp; omega))]; exact newAt _ _ _ (by simp)
  · rw [Below.heap_alloc _ _ _ (by first | (simp; done) | (simp; omega)), Below.heap_alloc _ _ _ (by first | (simp; done) | (simp; omega)), Below.heap_alloc _ _ _ (by first | (simp; done) | (simp; omega)), Below.heap_alloc _ _ _ (by first | (simp; done) | (simp; omega))]; exact newAt _ _ _ (by simp)
  · rw [Below.heap_alloc _ _ _ (by first | (simp; done) | (simp; omega)), Below.heap_alloc _ _ _ (by first | (simp; done) | (simp; omega)), Below.heap_alloc _ _ _ (by first | (simp; done) | (simp; omega))]; exact newAt _ _ _ (by simp)
  · rw [Below.heap_alloc _ _ _ (by first | (simp; done) | (simp; omega)), Below.heap_alloc _ _ _ (by first | (simp; done) | (simp; omega))]; exact newAt _ _ _ (by simp)
  · rw [Below.heap_alloc _ _ _ (by first | (simp; done) | (simp; omega))]; exact newAt _ _ _ (by simp)
  · exact newAt _ _ _ (by simp)
theorem six_below (w : World) (o0 o1 o2 o3 o4 o5 : Obj) : Below w.heap.size w ((((((w.alloc o0).alloc o1).alloc o2).alloc o3).alloc o4).alloc o5) :=
  ((((((Below.refl _ _).alloc (Nat.le_refl _) _).alloc (by simp) _).alloc (by simp; omega) _).alloc (by simp; omega) _).alloc (by simp; omega) _).alloc (by simp; omega) _
theorem owns_set {W : World} {B g i t m : Nat} {u v : Value} {L : List Value} (h : W.ownsRow B t 1 v m L) (hg : g < B) : (W.setCell ⟨g, i, none⟩ u).ownsRow B t 1 v m L :=
  (Only.setCell (w := W) ⟨g, i, none⟩ u).owns h (fun q hq e => by have h1 := (h.lt q hq).1; have e' : q = g := Option.some.inj e; omega)
/-- Eleven stores into one block. -/
abbrev st11 (w : World) (g : Nat) (a0 a1 a2 a3 a4 a5 a6 a7 a8 a9 a10 : Value) : World := (((((((((((w.setCell ⟨g, 0, none⟩ a0).setCell ⟨g, 1, none⟩ a1).setCell ⟨g, 2, none⟩ a2).setCell ⟨g, 3, none⟩ a3).setCell ⟨g, 4, none⟩ a4).setCell ⟨g, 5, none⟩ a5).setCell ⟨g, 6, none⟩ a6).setCell ⟨g, 7, none⟩ a7).setCell ⟨g, 8, none⟩ a8).setCell ⟨g, 9, none⟩ a9).setCell ⟨g, 10, none⟩ a10)
theorem st11_heap {w : World} {g : Nat} {a0 a1 a2 a3 a4 a5 a6 a7 a8 a9 a10 c0 c1 c2 c3 c4 c5 c6 c7 c8 c9 c10 : Value} {t : TypeId} (h : w.heap[g]? = some (.cells #[c0, c1, c2, c3, c4, c5, c6, c7, c8, c9, c10] t (0, 0))) : (st11 w g a0 a1 a2 a3 a4 a5 a6 a7 a8 a9 a10).heap[g]? = some (.cells #[a0, a1, a2, a3, a4, a5, a6, a7, a8, a9, a10] t (0, 0)) :=
  ((bk_set (bk_set (bk_set (bk_set (bk_set (bk_set (bk_set (bk_set (bk_set (bk_set (bk_set h 0 a0) 1 a1) 2 a2) 3 a3) 4 a4) 5 a5) 6 a6) 7 a7) 8 a8) 9 a9) 10 a10)).trans (congrArg (fun x => some (Obj.cells x t (0, 0))) (by simp))
theorem st11_below {w0 w : World} {B g : Nat} {a0 a1 a2 a3 a4 a5 a6 a7 a8 a9 a10 : Value} (h : Below B w0 w) (hg : B ≤ g) : Below B w0 (st11 w g a0 a1 a2 a3 a4 a5 a6 a7 a8 a9 a10) := (Below.setCell (Below.setCell (Below.setCell (Below.setCell (Below.setCell (Below.setCell (Below.setCell (Below.setCell (Below.setCell (Below.setCell (Below.setCell h (p := ⟨g, 0, none⟩) hg a0) (p := ⟨g, 1, none⟩) hg a1) (p := ⟨g, 2, none⟩) hg a2) (p := ⟨g, 3, none⟩) hg a3) (p := ⟨g, 4, none⟩) hg a4) (p := ⟨g, 5, none⟩) hg a5) (p := ⟨g, 6, none⟩) hg a6) (p := ⟨g, 7, none⟩) hg a7) (p := ⟨g, 8, none⟩) hg a8) (p := ⟨g, 9, none⟩) hg a9) (p := ⟨g, 10, none⟩) hg a10)
theorem st11_owns {w : World} {B g t m : Nat} {a0 a1 a2 a3 a4 a5 a6 a7 a8 a9 a10 v : Value} {L : List Value} (h : w.ownsRow B t 1 v m L) (hg : g < B) : (st11 w g a0 a1 a2 a3 a4 a5 a6 a7 a8 a9 a10).ownsRow B t 1 v m L := (owns_set (g := g) (i := 10) (u := a10) (owns_set (g := g) (i := 9) (u := a9) (owns_set (g := g) (i := 8) (u := a8) (owns_set (g := g) (i := 7) (u := a7) (owns_set (g := g) (i := 6) (u := a6) (owns_set (g := g) (i := 5) (u := a5) (owns_set (g := g) (i := 4) (u := a4) (owns_set (g := g) (i := 3) (u := a3) (owns_set (g := g) (i := 2) (u := a2) (owns_set (g := g) (i := 1) (u := a1) (owns_set (g := g) (i := 0) (u := a0) h hg) hg) hg) hg) hg) hg) hg) hg) hg) hg) hg)
theorem infoPk : (Tryd.prog.info? 46).map (·.size) = some 11 := by kernel_rfl
def zPk : Array Value := #[.int .i64 0, .int .i64 0, .slice none 0 0, .slice none 0 0, .slice none 0 0, .int .i64 0, .int .i64 0, .int .i64 0, .slice none 0 0, .int .i64 0, .int .i64 0]
/-- The world in which the packet's bytes are read: its own variables, the error's, the reader's. -/
abbrev pkW (w : World) (ao : Option Addr) (n cap : Nat) (cl : Int) : World :=
  ((((((w.alloc (.cells #[.slice ao n cap] 22)).alloc (.cells #[.int .i64 cl] 3)).alloc (.cells #[.int .i64 0, .int .i64 0, .slice none 0 0, .slice none 0 0, .slice none 0 0, .int .i64 0, .int .i64 0, .int .i64 0, .slice none 0 0, .int .i64 0, .int .i64 0] 46)).alloc (.cells #[.int .i64 0, .int .i64 0, .slice none 0 0, .slice none 0 0, .slice none 0 0, .int .i64 0, .int .i64 0, .int .i64 0, .slice none 0 0, .int .i64 0, .int .i64 0] 46)).alloc (.cells #[.nilIface] 48)).alloc (.cells #[.slice ao n cap, .int .i64 0] 87))
theorem pkClos (ao : Option Addr) (n cap : Nat) (cl : Int) (xs : List Int) (w : World) (ht : Tab w) (hL : TabL w) (hlie : (n = 0) ∨ ∃ b off, ao = some ⟨b, off, none⟩ ∧ Lies w b off n cap xs) (hlen : xs.length = n) (hB : Bytes xs) (hn : n ≤ 9223372036854775807) :
    Calls Tryd.prog 42 #[.pointer (some ⟨w.heap.size + 5, 0, none⟩), .pointer (some ⟨w.heap.size, 0, none⟩), .pointer (some ⟨w.heap.size + 1, 0, none⟩), .pointer (some ⟨w.heap.size + 3, 0, none⟩)] (pkW w ao n cap cl) fun e w' => Chg (SG (w.heap.size + 5) (w.heap.size + 3)) (pkW w ao n cap cl) w' ∧ ((∃ c, pk xs cl = .error c ∧ e = .panicked [leftP c]) ∨
      ∃ K, pk xs cl = .ok K ∧ e = .returned (.tuple #[]) ∧ LRes (pkW w ao n cap cl).heap.size w' (w.heap.size + 3) K) := by
  obtain ⟨e0, e1, e2, e3, e4, e5⟩ := six_blocks w (.cells #[.slice ao n cap] 22) (.cells #[.int .i64 cl] 3) (.cells #[.int .i64 0, .int .i64 0, .slice none 0 0, .slice none 0 0, .slice none 0 0, .int .i64 0, .int .i64 0, .int .i64 0, .slice none 0 0, .int .i64 0, .int .i64 0] 46) (.cells #[.int .i64 0, .int .i64 0, .slice none 0 0, .slice none 0 0, .slice none 0 0, .int .i64 0, .int .i64 0, .int .i64 0, .slice none 0 0, .int .i64 0, .int .i64 0] 46) (.cells #[.nilIface] 48) (.cells #[.slice ao n cap, .int .i64 0] 87)
  have hb := six_below w (.cells #[.slice ao n cap] 22) (.cells #[.int .i64 cl] 3) (.cells #[.int .i64 0, .int .i64 0, .slice none 0 0, .slice none 0 0, .slice none 0 0, .int .i64 0, .int .i64 0, .int .i64 0, .slice none 0 0, .int .i64 0, .int .i64 0] 46) (.cells #[.int .i64 0, .int .i64 0, .slice none 0 0, .slice none 0 0, .slice none 0 0, .int .i64 0, .int .i64 0, .int .i64 0, .slice none 0 0, .int .i64 0, .int .i64 0] 46) (.cells #[.nilIface] 48) (.cells #[.slice ao n cap, .int .i64 0] 87)
  have t1 := ht.lt
  have t2 := hL.lt
  refine closC (w.heap.size + 5) w.heap.size (w.heap.size + 1) (w.heap.size + 3) ao n cap cl xs _ (ht.below hb t1) (hL.below hb t2) ((bk_cell e0 0).trans rfl) ((bk_cell e1 0).trans rfl) e5 e3 ?_ hlen hB (by omega) (by omega) hn (fun h => by rcases h with h | h <;> omega) (fun h => by rcases h with h | h <;> omega)
  rcases hlie with h0 | ⟨b, off, ha, hl⟩
  · exact Or.inl h0
  · exact Or.inr ⟨b, off, ha, hl.below hb, by have := hl.lt; omega, by have := hl.lt; omega⟩
set_option maxRecDepth 20000 in
set_option maxHeartbeats 1000000 in
theorem peek_bad (ao : Option Addr) (n cap : Nat) (cl c : Int) (xs : List Int) (w : World) (ht : Tab w) (hL : TabL w) (hlie : (n = 0) ∨ ∃ b off, ao = some ⟨b, off, none⟩ ∧ Lies w b off n cap xs) (hlen : xs.length = n) (hB : Bytes xs) (hn : n ≤ 9223372036854775807) (hc : pk xs cl = .error c) :
    Calls Tryd.prog 28 #[.slice ao n cap, .int .i64 cl] w fun e w' => Below w.heap.size w w' ∧ e = .returned (.tuple #[.agg #[.int .i64 0, .int .i64 0, .slice none 0 0, .slice none 0 0, .slice none 0 0, .int .i64 0, .int .i64 0, .int .i64 0, .slice none 0 0, .int .i64 0, .int .i64 0], faultV c]) := by
  have hcl : Calls Tryd.prog 42 #[.pointer (some ⟨w.heap.size + 5, 0, none⟩), .pointer (some ⟨w.heap.size, 0, none⟩), .pointer (some ⟨w.heap.size + 1, 0, none⟩), .pointer (some ⟨w.heap.size + 3, 0, none⟩)] (pkW w ao n cap cl) fun e w' => e = .panicked [leftP c] ∧ Chg (SG (w.heap.size + 5) (w.heap.size + 3)) (pkW w ao n cap cl) w' := by
    refine (pkClos ao n cap cl xs w ht hL hlie hlen hB hn).mono ?_
    rintro e w' ⟨h1, ⟨c', h2, h3⟩ | ⟨K, h2, _⟩⟩
    · rw [hc] at h2; cases h2; exact ⟨h3, h1⟩
    · rw [hc] at h2; cases h2
  obtain ⟨e0, e1, e2, e3, e4, e5⟩ := six_blocks w (.cells #[.slice ao n cap] 22) (.cells #[.int .i64 cl] 3) (.cells #[.int .i64 0, .int .i64 0, .slice none 0 0, .slice none 0 0, .slice none 0 0, .int .i64 0, .int .i64 0, .int .i64 0, .slice none 0 0, .int .i64 0, .int .i64 0] 46) (.cells #[.int .i64 0, .int .i64 0, .slice none 0 0, .slice none 0 0, .slice none 0 0, .int .i64 0, .int .i64 0, .int .i64 0, .slice none 0 0, .int .i64 0, .int .i64 0] 46) (.cells #[.nilIface] 48) (.cells #[.slice ao n cap, .int .i64 0] 87)
  have hb := six_below w (.cells #[.slice ao n cap] 22) (.cells #[.int .i64 cl] 3) (.cells #[.int .i64 0, .int .i64 0, .slice none 0 0, .slice none 0 0, .slice none 0 0, .int .i64 0, .int .i64 0, .int .i64 0, .slice none 0 0, .int .i64 0, .int .i64 0] 46) (.cells #[.int .i64 0, .int .i64 0, .slice none 0 0, .slice none 0 0, .slice none 0 0, .int .i64 0, .int .i64 0, .int .i64 0, .slice none 0 0, .int .i64 0, .int .i64 0] 46) (.cells #[.nilIface] 48) (.cells #[.slice ao n cap, .int .i64 0] 87)
  have hlt4 : w.heap.size + 5 < (pkW w ao n cap cl).heap.size := (Array.getElem?_eq_some_iff.1 e5).1
  have hrd := readBytes_bad ao n cap (.pointer (some ⟨w.heap.size, 0, none⟩)) (.pointer (some ⟨w.heap.size + 1, 0, none⟩)) (.pointer (some ⟨w.heap.size + 3, 0, none⟩)) c
    ((((w.alloc (.cells #[.slice ao n cap] 22)).alloc (.cells #[.int .i64 cl] 3)).alloc (.cells #[.int .i64 0, .int .i64 0, .slice none 0 0, .slice none 0 0, .slice none 0 0, .int .i64 0, .int .i64 0, .int .i64 0, .slice none 0 0, .int .i64 0, .int .i64 0] 46)).alloc (.cells #[.int .i64 0, .int .i64 0, .slice none 0 0, .slice none 0 0, .slice none 0 0, .int .i64 0, .int .i64 0, .int .i64 0, .slice none 0 0, .int .i64 0, .int .i64 0] 46))
    (fun w' => Chg (SG (w.heap.size + 5) (w.heap.size + 3)) (pkW w ao n cap cl) w') (by simpa using hcl) (fun w' hq => by
      have h1 := (hq.block (w.heap.size + 4) (by omega) (fun h => by rcases h with h | h <;> omega)).trans e4
      simpa using h1)
  have hmf : ∀ (fn : Fn) (first cap : Array Value) (w : World), (Instr.makeFunc fn first cap).run Tryd.prog w = .ok (.func fn first cap) w := fun _ _ _ _ => rfl
  have HH : Hid _ := And.intro hb (And.intro e2 hlt4)
  clear hcl e0 e1 e2 e3 e4 e5 hb hlt4 ht hL hlie hlen hB hc
  go_enter Tryd.func28, Tryd.ntmps28
  go_wp2_with fail
  go_at_call 41
  refine hrd.mono ?_
  rintro e w1 ⟨rfl, w', hq, hw1⟩
  have z1 : (.cells #[.int .i64 0, .int .i64 0, .slice none 0 0, .slice none 0 0, .slice none 0 0, .int .i64 0, .int .i64 0, .int .i64 0, .slice none 0 0, .int .i64 0, .int .i64 0] 46 (0, 0) : Obj) = .cells #[.int .i64 0, .int .i64 0, .slice none 0 0, .slice none 0 0, .slice none 0 0, .int .i64 0, .int .i64 0, .int .i64 0, .slice none 0 0, .int .i64 0, .int .i64 0] 46 (0, 0) := rfl
  have hs4 : (((w.alloc (.cells #[.slice ao n cap] 22)).alloc (.cells #[.int .i64 cl] 3)).alloc (.cells #[.int .i64 0, .int .i64 0, .slice none 0 0, .slice none 0 0, .slice none 0 0, .int .i64 0, .int .i64 0, .int .i64 0, .slice none 0 0, .int .i64 0, .int .i64 0] 46)).heap.size + 1 = w.heap.size + 4 := by simp
  have hb1 : Below w.heap.size w w1 := by
    have h1 : Below w.heap.size w w' := HH.out.1.trans (hq.below HH.out.1.size (fun k hk => by rcases hk with hk | hk <;> omega))
    rw [hw1]
    exact (h1.setCell (by simp <;> omega) _).alloc (Nat.le_trans h1.size (by simp [World.setCell])) _
  have e21 : w1.heap[w.heap.size + 2]? = some (.cells #[.int .i64 0, .int .i64 0, .slice none 0 0, .slice none 0 0, .slice none 0 0, .int .i64 0, .int .i64 0, .int .i64 0, .slice none 0 0, .int .i64 0, .int .i64 0] 46 (0, 0)) := by
    have h1 := (hq.block (w.heap.size + 2) (by have := HH.out.2.2; omega) (fun hk => by rcases hk with hk | hk <;> omega)).trans HH.out.2.1
    have h2 : w.heap.size + 2 < w'.heap.size := (Array.getElem?_eq_some_iff.1 h1).1
    rw [hw1, Below.heap_alloc _ _ _ (by simp [World.setCell] <;> omega), bk_other (by simp <;> omega)]
    exact h1
  have HB : Hid _ := And.intro hb1 e21
  have c0 : w1.cell? ⟨w.heap.size + 1 + 1, 0, none⟩ = some (.int .i64 0) := (bk_cell e21 0).trans rfl
  have c1 : w1.cell? ⟨w.heap.size + 1 + 1, 1, none⟩ = some (.int .i64 0) := (bk_cell e21 1).trans rfl
  have c2 : w1.cell? ⟨w.heap.size + 1 + 1, 2, none⟩ = some (.slice none 0 0) := (bk_cell e21 2).trans rfl
  have c3 : w1.cell? ⟨w.heap.size + 1 + 1, 3, none⟩ = some (.slice none 0 0) := (bk_cell e21 3).trans rfl
  have c4 : w1.cell? ⟨w.heap.size + 1 + 1, 4, none⟩ = some (.slice none 0 0) := (bk_cell e21 4).trans rfl
  have c5 : w1.cell? ⟨w.heap.size + 1 + 1, 5, none⟩ = some (.int .i64 0) := (bk_cell e21 5).trans rfl
  have c6 : w1.cell? ⟨w.heap.size + 1 + 1, 6, none⟩ = some (.int .i64 0) := (bk_cell e21 6).trans rfl
  have c7 : w1.cell? ⟨w.heap.size + 1 + 1, 7, none⟩ = some (.int .i64 0) := (bk_cell e21 7).trans rfl
  have c8 : w1.cell? ⟨w.heap.size + 1 + 1, 8, none⟩ = some (.slice none 0 0) := (bk_cell e21 8).trans rfl
  have c9 : w1.cell? ⟨w.heap.size + 1 + 1, 9, none⟩ = some (.int .i64 0) := (bk_cell e21 9).trans rfl
  have c10 : w1.cell? ⟨w.heap.size + 1 + 1, 10, none⟩ = some (.int .i64 0) := (bk_cell e21 10).trans rfl
  have f0 : w1.frozen? ⟨w.heap.size + 1 + 1, 0, none⟩ = false := bk_free e21 0
  have f1 : w1.frozen? ⟨w.heap.size + 1 + 1, 1, none⟩ = false := bk_free e21 1
  have f2 : w1.frozen? ⟨w.heap.size + 1 + 1, 2, none⟩ = false := bk_free e21 2
  have f3 : w1.frozen? ⟨w.heap.size + 1 + 1, 3, none⟩ = false := bk_free e21 3
  have f4 : w1.frozen? ⟨w.heap.size + 1 + 1, 4, none⟩ = false := bk_free e21 4
  have f5 : w1.frozen? ⟨w.heap.size + 1 + 1, 5, none⟩ = false := bk_free e21 5
  have f6 : w1.frozen? ⟨w.heap.size + 1 + 1, 6, none⟩ = false := bk_free e21 6
  have f7 : w1.frozen? ⟨w.heap.size + 1 + 1, 7, none⟩ = false := bk_free e21 7
  have f8 : w1.frozen? ⟨w.heap.size + 1 + 1, 8, none⟩ = false := bk_free e21 8
  have f9 : w1.frozen? ⟨w.heap.size + 1 + 1, 9, none⟩ = false := bk_free e21 9
  have f10 : w1.frozen? ⟨w.heap.size + 1 + 1, 10, none⟩ = false := bk_free e21 10
  clear hb1 e21 hw1 hq hs4 z1
  unfold faultV
  go_wp2_with fail
  refine bodyPost_ret (v := .tuple #[.agg #[.int .i64 0, .int .i64 0, .slice none 0 0, .slice none 0 0, .slice none 0 0, .int .i64 0, .int .i64 0, .int .i64 0, .slice none 0 0, .int .i64 0, .int .i64 0], .iface 75 (.agg #[.int .i64 c])]) ?_ rfl ?_
  · refine results_row_tmp (t := 46) rfl _ _ (w.heap.size + 1 + 1) _ (fr := (0, 0)) _ _ rfl rfl ?_ Tryd.underlying46 rfl infoPk
    exact st11_heap HB.out.2
  · exact ⟨st11_below HB.out.1 (by omega), rfl⟩
/-- What peekPacket gives for what can be told: the eleven cells. -/
def pkA (K : PK) (vd vs vt vv : Value) : Array Value := #[.int .i64 K.f, .int .i64 K.v, vd, vs, vt, .int .i64 0, .int .i64 0, .int .i64 0, vv, .int .i64 K.na, .int .i64 K.fin]
set_option maxRecDepth 20000 in
set_option maxHeartbeats 1000000 in
theorem peek_ok (ao : Option Addr) (n cap : Nat) (cl : Int) (K : PK) (xs : List Int) (w : World) (ht : Tab w) (hL : TabL w) (hlie : (n = 0) ∨ ∃ b off, ao = some ⟨b, off, none⟩ ∧ Lies w b off n cap xs) (hlen : xs.length = n) (hB : Bytes xs) (hn : n ≤ 9223372036854775807) (hc : pk xs cl = .ok K) :
    Calls Tryd.prog 28 #[.slice ao n cap, .int .i64 cl] w fun e w' => Below w.heap.size w w' ∧ ∃ vd vs vt vv, e = .returned (.tuple #[.agg (pkA K vd vs vt vv), .nilIface]) ∧ HOwn w' w.heap.size vd vs vt ⟨K.f, K.v, K.d, K.s, K.t, 0, 0, 0⟩ ∧ w'.ownsRow w.heap.size 3 1 vv K.vers.length (K.vers.map (Value.int .i64)) := by
  have hcl : Calls Tryd.prog 42 #[.pointer (some ⟨w.heap.size + 5, 0, none⟩), .pointer (some ⟨w.heap.size, 0, none⟩), .pointer (some ⟨w.heap.size + 1, 0, none⟩), .pointer (some ⟨w.heap.size + 3, 0, none⟩)] (pkW w ao n cap cl) fun e w' => e = .returned (.tuple #[]) ∧ (Chg (SG (w.heap.size + 5) (w.heap.size + 3)) (pkW w ao n cap cl) w' ∧ LRes (pkW w ao n cap cl).heap.size w' (w.heap.size + 3) K) := by
    refine (pkClos ao n cap cl xs w ht hL hlie hlen hB hn).mono ?_
    rintro e w' ⟨h1, ⟨c', h2, h3⟩ | ⟨K', h2, h3, h4⟩⟩
    · rw [hc] at h2; cases h2
    · rw [hc] at h2; cases h2; exact ⟨h3, h1, h4⟩
  obtain ⟨e0, e1, e2, e3, e4, e5⟩ := six_blocks w (.cells #[.slice ao n cap] 22) (.cells #[.int .i64 cl] 3) (.cells #[.int .i64 0, .int .i64 0, .slice none 0 0, .slice none 0 0, .slice none 0 0, .int .i64 0, .int .i64 0, .int .i64 0, .slice none 0 0, .int .i64 0, .int .i64 0] 46) (.cells #[.int .i64 0, .int .i64 0, .slice none 0 0, .slice none 0 0, .slice none 0 0, .int .i64 0, .int .i64 0, .int .i64 0, .slice none 0 0, .int .i64 0, .int .i64 0] 46) (.cells #[.nilIface] 48) (.cells #[.slice ao n cap, .int .i64 0] 87)
  have hb := six_below w (.cells #[.slice ao n cap] 22) (.cells #[.int .i64 cl] 3) (.cells #[.int .i64 0, .int .i64 0, .slice none 0 0, .slice none 0 0, .slice none 0 0, .int .i64 0, .int .i64 0, .int .i64 0, .slice none 0 0, .int .i64 0, .int .i64 0] 46) (.cells #[.int .i64 0, .int .i64 0, .slice none 0 0, .slice none 0 0, .slice none 0 0, .int .i64 0, .int .i64 0, .int .i64 0, .slice none 0 0, .int .i64 0, .int .i64 0] 46) (.cells #[.nilIface] 48) (.cells #[.slice ao n cap, .int .i64 0] 87)
  have hlt4 : w.heap.size + 5 < (pkW w ao n cap cl).heap.size := (Array.getElem?_eq_some_iff.1 e5).1
  have hrd := readBytes_ok ao n cap (.pointer (some ⟨w.heap.size, 0, none⟩)) (.pointer (some ⟨w.heap.size + 1, 0, none⟩)) (.pointer (some ⟨w.heap.size + 3, 0, none⟩))
    ((((w.alloc (.cells #[.slice ao n cap] 22)).alloc (.cells #[.int .i64 cl] 3)).alloc (.cells #[.int .i64 0, .int .i64 0, .slice none 0 0, .slice none 0 0, .slice none 0 0, .int .i64 0, .int .i64 0, .int .i64 0, .slice none 0 0, .int .i64 0, .int .i64 0] 46)).alloc (.cells #[.int .i64 0, .int .i64 0, .slice none 0 0, .slice none 0 0, .slice none 0 0, .int .i64 0, .int .i64 0, .int .i64 0, .slice none 0 0, .int .i64 0, .int .i64 0] 46))
    (fun w' => Chg (SG (w.heap.size + 5) (w.heap.size + 3)) (pkW w ao n cap cl) w' ∧ LRes (pkW w ao n cap cl).heap.size w' (w.heap.size + 3) K) (by simpa using hcl) (fun w' hq => by
      have h1 := (hq.1.block (w.heap.size + 4) (by omega) (fun h => by rcases h with h | h <;> omega)).trans e4
      simpa using h1)
  have hmf : ∀ (fn : Fn) (first cap : Array Value) (w : World), (Instr.makeFunc fn first cap).run Tryd.prog w = .ok (.func fn first cap) w := fun _ _ _ _ => rfl
  have HH : Hid _ := And.intro hb (And.intro e2 hlt4)
  clear hcl e0 e1 e2 e3 e4 e5 hb hlt4 ht hL hlie hlen hB hc
  go_enter Tryd.func28, Tryd.ntmps28
  go_wp2_with fail
  go_at_call 41
  refine hrd.mono ?_
  rintro e w1 ⟨rfl, w', ⟨hq, vd, vs, vt, vv, q1, q2, q3⟩, hw1⟩
  have hs4 : (((w.alloc (.cells #[.slice ao n cap] 22)).alloc (.cells #[.int .i64 cl] 3)).alloc (.cells #[.int .i64 0, .int .i64 0, .slice none 0 0, .slice none 0 0, .slice none 0 0, .int .i64 0, .int .i64 0, .int .i64 0, .slice none 0 0, .int .i64 0, .int .i64 0] 46)).heap.size + 1 = w.heap.size + 4 := by simp
  have hbw : Below w.heap.size w w' := HH.out.1.trans (hq.below HH.out.1.size (fun k hk => by rcases hk with hk | hk <;> omega))
  have hW0 : w.heap.size + 5 < (pkW w ao n cap cl).heap.size := HH.out.2.2
  have ho1 : Only (some (w.heap.size + 4)) w' w1 := by
    rw [hw1]
    have := Only.setCell (w := w') ⟨w.heap.size + 4, 0, none⟩ .nilIface
    simpa using this
  have hb1 : Below w.heap.size w w1 := hbw.trans ⟨ho1.os, ho1.tape, ho1.output, Nat.le_of_eq ho1.size.symm, fun k hk => ho1.block k (fun e => by have e' : k = w.heap.size + 4 := Option.some.inj e; omega)⟩
  have e21 : w1.heap[w.heap.size + 2]? = some (.cells #[.int .i64 0, .int .i64 0, .slice none 0 0, .slice none 0 0, .slice none 0 0, .int .i64 0, .int .i64 0, .int .i64 0, .slice none 0 0, .int .i64 0, .int .i64 0] 46 (0, 0)) := (ho1.block (w.heap.size + 2) (fun e => by have e' : w.heap.size + 2 = w.heap.size + 4 := Option.some.inj e; omega)).trans ((hq.block (w.heap.size + 2) (by omega) (fun hk => by rcases hk with hk | hk <;> omega)).trans HH.out.2.1)
  have e31 : pkB w1 (w.heap.size + 3) K.f K.v vd vs vt vv K.na K.fin := (ho1.block (w.heap.size + 3) (fun e => by have e' : w.heap.size + 3 = w.heap.size + 4 := Option.some.inj e; omega)).trans q1
  have hne : ∀ {v : Value} {m t : Nat} {L : List Value}, w'.ownsRow (pkW w ao n cap cl).heap.size t 1 v m L → ∀ q, v.ownBlock = some q → w.heap.size + 5 < q := fun h q hq => by have := (h.lt q hq).1; omega
  have tr : ∀ {v : Value} {m t : Nat} {L : List Value}, w'.ownsRow (pkW w ao n cap cl).heap.size t 1 v m L → w1.ownsRow (pkW w ao n cap cl).heap.size t 1 v m L := fun h => ho1.owns h (fun q hq e => by have h1 := hne h q hq; have e' : q = w.heap.size + 4 := Option.some.inj e; omega)
  obtain ⟨Bs, hBs⟩ : ∃ Bs, Bs = (pkW w ao n cap cl).heap.size := ⟨_, rfl⟩
  rw [← hBs] at tr q2 q3 hW0
  have HO : Hid _ := And.intro (tr q2.o0) (And.intro (tr q2.o1) (And.intro (tr q2.o2) (And.intro (tr q3) (And.intro q2.a01 (And.intro q2.a02 (And.intro q2.a12 hW0))))))
  obtain ⟨da, dp, ed⟩ := (row_of_owns q2.o0).form
  obtain ⟨sa, sp, es⟩ := (row_of_owns q2.o1).form
  obtain ⟨ta, tp, et⟩ := (row_of_owns q2.o2).form
  obtain ⟨va, vp, ev⟩ := (row_of_owns (k := .i64) q3).form
  have HB : Hid _ := And.intro hb1 e21
  have c0 : w1.cell? ⟨w.heap.size + 1 + 1, 0, none⟩ = some (.int .i64 0) := (bk_cell e21 0).trans rfl
  have c1 : w1.cell? ⟨w.heap.size + 1 + 1, 1, none⟩ = some (.int .i64 0) := (bk_cell e21 1).trans rfl
  have c2 : w1.cell? ⟨w.heap.size + 1 + 1, 2, none⟩ = some (.slice none 0 0) := (bk_cell e21 2).trans rfl
  have c3 : w1.cell? ⟨w.heap.size + 1 + 1, 3, none⟩ = some (.slice none 0 0) := (bk_cell e21 3).trans rfl
  have c4 : w1.cell? ⟨w.heap.size + 1 + 1, 4, none⟩ = some (.slice none 0 0) := (bk_cell e21 4).trans rfl
  have c5 : w1.cell? ⟨w.heap.size + 1 + 1, 5, none⟩ = some (.int .i64 0) := (bk_cell e21 5).trans rfl
  have c6 : w1.cell? ⟨w.heap.size + 1 + 1, 6, none⟩ = some (.int .i64 0) := (bk_cell e21 6).trans rfl
  have c7 : w1.cell? ⟨w.heap.size + 1 + 1, 7, none⟩ = some (.int .i64 0) := (bk_cell e21 7).trans rfl
  have c8 : w1.cell? ⟨w.heap.size + 1 + 1, 8, none⟩ = some (.slice none 0 0) := (bk_cell e21 8).trans rfl
  have c9 : w1.cell? ⟨w.heap.size + 1 + 1, 9, none⟩ = some (.int .i64 0) := (bk_cell e21 9).trans rfl
  have c10 : w1.cell? ⟨w.heap.size + 1 + 1, 10, none⟩ = some (.int .i64 0) := (bk_cell e21 10).trans rfl
  have f0 : w1.frozen? ⟨w.heap.size + 1 + 1, 0, none⟩ = false := bk_free e21 0
  have f1 : w1.frozen? ⟨w.heap.size + 1 + 1, 1, none⟩ = false := bk_free e21 1
  have f2 : w1.frozen? ⟨w.heap.size + 1 + 1, 2, none⟩ = false := bk_free e21 2
  have f3 : w1.frozen? ⟨w.heap.size + 1 + 1, 3, none⟩ = false := bk_free e21 3
  have f4 : w1.frozen? ⟨w.heap.size + 1 + 1, 4, none⟩ = false := bk_free e21 4
  have f5 : w1.frozen? ⟨w.heap.size + 1 + 1, 5, none⟩ = false := bk_free e21 5
  have f6 : w1.frozen? ⟨w.heap.size + 1 + 1, 6, none⟩ = false := bk_free e21 6
  have f7 : w1.frozen? ⟨w.heap.size + 1 + 1, 7, none⟩ = false := bk_free e21 7
  have f8 : w1.frozen? ⟨w.heap.size + 1 + 1, 8, none⟩ = false := bk_free e21 8
  have f9 : w1.frozen? ⟨w.heap.size + 1 + 1, 9, none⟩ = false := bk_free e21 9
  have f10 : w1.frozen? ⟨w.heap.size + 1 + 1, 10, none⟩ = false := bk_free e21 10
  have p0 : w1.cell? ⟨w.heap.size + 1 + 1 + 1, 0, none⟩ = some (.int .i64 K.f) := (bk_cell e31 0).trans rfl
  have p1 : w1.cell? ⟨w.heap.size + 1 + 1 + 1, 1, none⟩ = some (.int .i64 K.v) := (bk_cell e31 1).trans rfl
  have p2 : w1.cell? ⟨w.heap.size + 1 + 1 + 1, 2, none⟩ = some (vd) := (bk_cell e31 2).trans rfl
  have p3 : w1.cell? ⟨w.heap.size + 1 + 1 + 1, 3, none⟩ = some (vs) := (bk_cell e31 3).trans rfl
  have p4 : w1.cell? ⟨w.heap.size + 1 + 1 + 1, 4, none⟩ = some (vt) := (bk_cell e31 4).trans rfl
  have p5 : w1.cell? ⟨w.heap.size + 1 + 1 + 1, 5, none⟩ = some (.int .i64 0) := (bk_cell e31 5).trans rfl
  have p6 : w1.cell? ⟨w.heap.size + 1 + 1 + 1, 6, none⟩ = some (.int .i64 0) := (bk_cell e31 6).trans rfl
  have p7 : w1.cell? ⟨w.heap.size + 1 + 1 + 1, 7, none⟩ = some (.int .i64 0) := (bk_cell e31 7).trans rfl
  have p8 : w1.cell? ⟨w.heap.size + 1 + 1 + 1, 8, none⟩ = some (vv) := (bk_cell e31 8).trans rfl
  have p9 : w1.cell? ⟨w.heap.size + 1 + 1 + 1, 9, none⟩ = some (.int .i64 K.na) := (bk_cell e31 9).trans rfl
  have p10 : w1.cell? ⟨w.heap.size + 1 + 1 + 1, 10, none⟩ = some (.int .i64 K.fin) := (bk_cell e31 10).trans rfl
  clear hb1 e21 hw1 hq hs4 e31 hne tr q1 q2 q3 hbw ho1 hW0 hBs
  subst ed es et ev
  go_wp2_with fail
  have hg2 : w.heap.size + 1 + 1 < Bs := by have := HO.out.2.2.2.2.2.2.2; omega
  have hm2 : w.heap.size ≤ Bs := by omega
  refine bodyPost_ret (v := .tuple #[.agg #[.int .i64 K.f, .int .i64 K.v, .slice da K.d.length dp, .slice sa K.s.length sp, .slice ta K.t.length tp, .int .i64 0, .int .i64 0, .int .i64 0, .slice va K.vers.length vp, .int .i64 K.na, .int .i64 K.fin], .nilIface]) ?_ rfl ?_
  · refine results_row_tmp (t := 46) rfl _ _ (w.heap.size + 1 + 1) _ (fr := (0, 0)) _ _ rfl rfl ?_ Tryd.underlying46 rfl infoPk
    exact st11_heap HB.out.2
  · refine ⟨st11_below HB.out.1 (by omega), .slice da K.d.length dp, .slice sa K.s.length sp, .slice ta K.t.length tp, .slice va K.vers.length vp, rfl, ⟨?_, ?_, ?_, HO.out.2.2.2.2.1, HO.out.2.2.2.2.2.1, HO.out.2.2.2.2.2.2.1⟩, ?_⟩
    · exact owns_mono (st11_owns HO.out.1 hg2) hm2
    · exact owns_mono (st11_owns HO.out.2.1 hg2) hm2
    · exact owns_mono (st11_owns HO.out.2.2.1 hg2) hm2
    · exact owns_mono (st11_owns HO.out.2.2.2.1 hg2) hm2
end Go.Proofs.YtbbiinbjgognjaaDoor
