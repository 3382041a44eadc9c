import Derived.Test.YtohooehbjbhhhaaDoorRows
import Derived.WalkKit
import Derived.ProofKit
import Derived.OpenShut
import Derived.OpenVars
import Derived.Deep.DeepHandedRow
import Derived.Test.YtohooehbjbhhhaaDoorMem
import Derived.Test.YtohooehbjbhhhaaDoorRhJ
import Derived.Test.YtohooehbjbhhhaaDoorRhM
import Derived.Test.YtohooehbjbhhhaaDoorRhE
import Derived.Deep.RegionLaw
import Derived.Deep.LoopGhost
import Derived.Test.YtohooehbjbhhhaaDoorRhN
import Derived.Test.YtohooehbjbhhhaaDoorToBytes
import Derived.Test.YtohooehbjbhhhaaDoorEqBytes
import Derived.Test.YtohooehbjbhhhaaDoorCards
import Derived.Test.YtohooehbjbhhhaaDoorTie
import Derived.Lib.LaidTab
import Derived.LaidHandle
namespace Go.Proofs.YtohooehbjbhhhaaDoor
open Go.ChangeShapes Go.WideShapes Go.ChangeAt Go.RowKit

/-- Each parameter's type can be read, and is a row of the table: one closed fact. -/
def typesRowed (P : Program) (ts : List TypeId) : Bool := ts.all fun t => P.readableRec t && decide (t < P.types.size)

theorem below_trodAll {H : Type} {enc : TypeId × Value → H} {P : Program} (hl : laidOutB P = true) {W W' : World} (hb : Below W.heap.size W W') :
    ∀ {ts : List TypeId} {vs : List Value} {ds : List (DataW H)} {ps : List MemPlace}, typesRowed P ts = true → DataW.TrodAll enc P W 0 (fun _ => true) true ts vs ds ps → (∀ x ∈ ps, x.block < W.heap.size) →
      DataW.TrodAll enc P W' 0 (fun b => decide (b < W.heap.size)) true ts vs ds ps
  | [], [], [], _, _, h, _ => h
  | [], _ :: _, _, _, _, h, _ => h.elim
  | [], [], _ :: _, _, _, h, _ => h.elim
  | _ :: _, [], _, _, _, h, _ => h.elim
  | _ :: _, _ :: _, [], _, _, h, _ => h.elim
  | t :: ts, v :: vs, d :: ds, ps, hr, h, hlt => by
    obtain ⟨p, q, h1, h2, rfl⟩ := h
    simp only [typesRowed, List.all_cons, Bool.and_eq_true, decide_eq_true_eq] at hr
    exact ⟨p, q, Below.trod hl hr.1.1 hr.1.2 h1 hb (fun x hx => hlt x (by simp [hx])), below_trodAll hl hb (by simpa [typesRowed] using hr.2) h2 (fun x hx => hlt x (by simp [hx])), rfl⟩

/-- WHAT A LAW's ROW ASKS, out of 'it returned true, and of what was there before nothing has turned'. -/
theorem law_post {H : Type} {enc : TypeId × Value → H} {P : Program} {f : Func} {s : ChangeSpec} {W W' : World} {args : Array Value} {ds gs : List (DataW H)} {before : List MemPlace} {tb : TypeId}
    (hl : laidOutB P = true) (hp : typesRowed P f.params.toList = true) (hv : varsRowed P s.vars = true) (hr : f.resultTypes = #[tb]) (hu : P.underlying tb = some .bool)
    (hW : DataW.Whole enc P f.params.toList s.vars false W args.toList ds gs before)
    (hs : s.fn H (ds ++ gs) = { results := [.lit (.bool true)], args := ds, vars := gs }) (hb : Below W.heap.size W W') :
    s.post enc P f false true false false W args (.bool true) W' := by
  have hW' := hW
  obtain ⟨p, q, hA, hV, rfl, hfz, hnd⟩ := hW
  have hlt : ∀ x ∈ p ++ q, x.block < W.heap.size := fun x hx => hW'.lt x hx
  refine ⟨ds, gs, p ++ q, [], p, q, hW', ?_, ?_, ?_, hb.frame _, fun h => by cases h⟩
  · rw [hs, hr]
    exact trodAll_mk1 (shut_bool hu _)
  · rw [hs]
    exact below_trodAll hl hb hp hA (fun x hx => hlt x (by simp [hx]))
  · rw [hs]
    exact Below.trodVars hl hb hv hV

theorem cell_ltL {w : World} {b o : Nat} {u : Value} (h : w.cell? ⟨b, o, none⟩ = some u) : b < w.heap.size := by
  refine Nat.lt_of_not_le (fun hn => ?_)
  have e : w.heap[b]? = none := Array.getElem?_eq_none (by omega)
  simp [World.cell?, e] at h

/-- AN ARGUMENT THAT IS A SLICE OF NUMBERS: it reads as some numbers of its kind. -/
theorem open_row {H : Type} {enc : TypeId × Value → H} {P : Program} {W : World} {r : Reach} {base : Nat} {t e : TypeId} {k : IntKind} {v : Value} {d : DataW H} {p : List MemPlace}
    (ht : P.underlying t = some (.slice e)) (he : P.underlying e = some (.int k)) (hc : P.cellsOf e = 1) (hval : Value.okWide P W r base t v) (h : DataW.Trod enc P W 0 (fun _ => true) true t v d p) :
    ∃ xs : List Int, Row W k v xs ∧ xs.length ≤ maxLen ∧ ∀ x ∈ xs, (Lit.int k x).wf = true := by
  obtain ⟨a0, len, cap, rfl⟩ := okWide_slice ht hval
  obtain ⟨fuel, hf⟩ := h
  rcases open_ints ht he hc hf with ⟨hcs, hx⟩ | ⟨a, len', cap', zs, hcs, _, hl, hm, hz, hx, hcell, hwz⟩
  · have : Value.slice a0 len cap = .slice none 0 0 := by simpa [Value.cells] using hcs
    rw [this]
    exact ⟨[], Or.inl ⟨rfl, none, 0, rfl⟩, by simp, by simp⟩
  · have : Value.slice a0 len cap = .slice (some a) len' cap' := by simpa [Value.cells] using hcs
    rw [this]
    have hzl : zs.length = cap' := by simpa using hz
    have htl : (zs.take len').length = len' := by rw [List.length_take]; omega
    refine ⟨zs.take len', ?_, by rw [htl]; omega, fun x hx => hwz x (List.mem_of_mem_take hx)⟩
    by_cases h0 : len' = 0
    · subst h0
      exact Or.inl ⟨by simp, _, _, rfl⟩
    · obtain ⟨b, off, rfl, hcc⟩ := ints_at hcell (by omega)
      refine Or.inr ⟨b, off, cap', by rw [htl], cell_ltL (hcc 0 (by omega)), by rw [htl]; exact ⟨hl, hm⟩, fun j hj => ?_⟩
      rw [htl] at hj
      rw [hcc j (by omega)]
      simp [List.getD, hj]
end Go.Proofs.YtohooehbjbhhhaaDoor

namespace Go.Proofs.YtohooehbjbhhhaaDoor
open Go.RowKit
set_option linter.unusedVariables false

theorem held_nil (k : Int) (v : Value) (w : World) (h : Row w .u8 v []) :
    Calls Tryd.prog 26 #[v, .int .i64 k] w fun e w' => e = .returned (.int .i64 k) ∧ w' = w := by
  obtain ⟨ao, ca, rfl⟩ := h.form
  clear h
  go_enter Tryd.func26, Tryd.ntmps26
  go_wp2
  refine wp_loop_rounds 1 ?_
  rw [rounds_succ]
  go_wp2
  go_ret
  exact ⟨rfl, rfl⟩

set_option maxHeartbeats 400000 in
theorem held_core (q : Int) (n : Nat) (b off ca : Nat) (w : World) (hn : n ≤ 140737488355328) (hq0 : 0 ≤ q) (hq1 : q ≤ 140737488355328)
    (hc : ∀ j, j < n → w.cell? ⟨b, off + j, none⟩ = some (.int .u8 ((q + (j : Int)) % 256))) :
    Calls Tryd.prog 26 #[.slice (some ⟨b, off, none⟩) n ca, .int .i64 q] w fun e w' => e = .returned (.int .i64 (q + n)) ∧ w' = w := by
  have HC : Hid (∀ j, j < n → w.cell? ⟨b, off + j, none⟩ = some (.int .u8 ((q + (j : Int)) % 256))) := hc
  clear hc
  go_enter Tryd.func26, Tryd.ntmps26
  go_wp2
  go_loop [1, 5] (fun s i => ∃ k : Nat, k ≤ n ∧ i = .int .i64 k ∧ s = .int .i64 (q + k)) (fun _ i => n - (intOf i).toNat)
  case atStart => exact ⟨0, Nat.zero_le _, rfl, by simp⟩
  case round =>
    obtain ⟨k, hk, rfl, rfl⟩ := hrel
    by_cases hlt : k < n
    · have c1 := HC.out k hlt
      go_wp2
      go_round
      case rel => exact ⟨k + 1, by omega, by go_num, by go_num⟩
      case measure => simp [intOf]; omega
    · go_wp2
      go_ret
      obtain rfl : k = n := by omega
      exact ⟨rfl, rfl⟩

theorem heldBytes (q : Int) (n : Nat) (v : Value) (w : World) (h : Row w .u8 v (marks q n)) (hn : n ≤ 140737488355328) (hq0 : 0 ≤ q) (hq1 : q ≤ 140737488355328) :
    Calls Tryd.prog 26 #[v, .int .i64 q] w fun e w' => e = .returned (.int .i64 (q + n)) ∧ w' = w := by
  by_cases h0 : 0 < n
  · obtain ⟨b, off, ca, rfl, _, hc⟩ := h.at (by rw [marks_length]; exact h0)
    rw [marks_length] at hc ⊢
    exact held_core q n b off ca w hn hq0 hq1 (fun j hj => by rw [← marks_at q n j hj]; exact hc j hj)
  · obtain rfl : n = 0 := by omega
    have := held_nil q v w h
    simpa using this

theorem mark_nil (k : Int) (v : Value) (w : World) (h : Row w .u8 v []) :
    Calls Tryd.prog 9 #[v, .int .i64 k] w fun e w' => e = .returned (.int .i64 k) ∧ w' = w := by
  obtain ⟨ao, ca, rfl⟩ := h.form
  clear h
  go_enter Tryd.func9, Tryd.ntmps9
  go_wp2
  refine wp_loop_rounds 1 ?_
  rw [rounds_succ]
  go_wp2
  go_ret
  exact ⟨rfl, rfl⟩

/-- What one store of a round does. -/
theorem mark_step {e0 : Nat} {w wr : World} {base g n cap k : Nat} {q x : Int} {xs : List Int} (hx : x = (q + (k : Int)) % 256)
    (hl : xs.length = n) (hk : k < n) (hm : ∀ j, j < k → xs.getD j 0 = (q + (j : Int)) % 256)
    (hown : wr.ownsRow base e0 1 (.slice (some ⟨g, 0, none⟩) n cap) n (xs.map (Value.int .u8))) (hb : Below base w wr) (hz : wr.heap.size = w.heap.size) (ho : Only (some g) w wr) (hg : base ≤ g) :
    ∃ ys : List Int, ys.length = n ∧ (∀ j, j < k + 1 → ys.getD j 0 = (q + (j : Int)) % 256) ∧ (wr.setCell ⟨g, k, none⟩ (.int .u8 x)).ownsRow base e0 1 (.slice (some ⟨g, 0, none⟩) n cap) n (ys.map (Value.int .u8)) ∧
      Below base w (wr.setCell ⟨g, k, none⟩ (.int .u8 x)) ∧ (wr.setCell ⟨g, k, none⟩ (.int .u8 x)).heap.size = w.heap.size ∧ Only (some g) w (wr.setCell ⟨g, k, none⟩ (.int .u8 x)) := by
  refine ⟨xs.set k x, by simp [hl], fun j hj => ?_, ?_, hb.setCell hg _, by simp [World.setCell, hz], ho.trans (Only.setCell ⟨g, k, none⟩ _)⟩
  · by_cases e : j = k
    · subst e
      simp [List.getD, hl, hk, hx]
    · have := hm j (by omega)
      simp only [List.getD, List.getElem?_set] at this ⊢
      rw [if_neg (by omega)]
      exact this
  · have := (hown.stored k (.int .u8 x)).1
    rwa [← List.map_set] at this

set_option maxHeartbeats 400000 in
theorem mark_core {e0 : Nat} (q : Int) (n : Nat) (base g cap : Nat) (xs : List Int) (w : World) (hn : n ≤ 140737488355328) (hq0 : 0 ≤ q) (hq1 : q ≤ 140737488355328) (hg : base ≤ g) (hl0 : xs.length = n)
    (hown0 : w.ownsRow base e0 1 (.slice (some ⟨g, 0, none⟩) n cap) n (xs.map (Value.int .u8))) :
    Calls Tryd.prog 9 #[.slice (some ⟨g, 0, none⟩) n cap, .int .i64 q] w fun e w' => e = .returned (.int .i64 (q + n)) ∧
      (∃ ys : List Int, ys.length = n ∧ (∀ j, j < n → ys.getD j 0 = (q + (j : Int)) % 256) ∧ w'.ownsRow base e0 1 (.slice (some ⟨g, 0, none⟩) n cap) n (ys.map (Value.int .u8))) ∧ Below base w w' ∧ w'.heap.size = w.heap.size ∧ Only (some g) w w' := by
  go_enter Tryd.func9, Tryd.ntmps9
  go_wp2
  go_loopw [1, 5] (fun s i wr => ∃ k : Nat, k ≤ n ∧ i = .int .i64 k ∧ s = .int .i64 (q + k) ∧ ∃ zs : List Int, zs.length = n ∧ (∀ j, j < k → zs.getD j 0 = (q + (j : Int)) % 256) ∧
      wr.ownsRow base e0 1 (.slice (some ⟨g, 0, none⟩) n cap) n (zs.map (Value.int .u8)) ∧ Below base w wr ∧ wr.heap.size = w.heap.size ∧ Only (some g) w wr) (fun _ i _ => n - (intOf i).toNat)
  case atStart => exact ⟨0, Nat.zero_le _, rfl, by simp, xs, hl0, fun j h => by omega, hown0, Below.refl _ _, rfl, Only.refl _ _⟩
  case round =>
    obtain ⟨k, hk, rfl, rfl, zs, hl, hm, hown, hb, hz, ho⟩ := hrel
    by_cases hlt : k < n
    · have R := mark_step (x := (q + (k : Int)) % 256) rfl hl hlt hm hown hb hz ho hg
      have f1 := hown.frozenAt k
      have c1 : ∃ u, wr.cell? ⟨g, k, none⟩ = some u := by
        have := hown.cellAt k (by omega)
        rw [this]
        exact ⟨_, by rw [List.getElem?_map, List.getElem?_eq_getElem (by omega)]; rfl⟩
      obtain ⟨u, c1⟩ := c1
      clear hl hm hown hb hz ho hown0 hl0
      obtain ⟨ys, R⟩ := R
      have HR : Hid _ := R
      clear R
      go_wp2
      go_roundw
      case rel =>
        obtain ⟨r1, r2, r3, r4, r5, r6⟩ := HR.out
        exact ⟨k + 1, by omega, by go_num, by go_num, ys, r1, r2, r3, r4, r5, r6⟩
      case measure => simp [intOf]; omega
    · have HR : Hid _ := And.intro hl (And.intro hm (And.intro hown (And.intro hb (And.intro hz ho))))
      clear hl hm hown hb hz ho hown0 hl0
      go_wp2
      go_ret
      obtain rfl : k = n := by omega
      obtain ⟨r1, r2, r3, r4, r5, r6⟩ := HR.out
      exact ⟨rfl, ⟨zs, r1, r2, r3⟩, r4, r5, r6⟩

theorem markBytes {e0 : Nat} (q : Int) (n base : Nat) (v : Value) (xs : List Int) (w : World) (hn : n ≤ 140737488355328) (hq0 : 0 ≤ q) (hq1 : q ≤ 140737488355328)
    (hown : w.ownsRow base e0 1 v n (xs.map (Value.int .u8))) :
    Calls Tryd.prog 9 #[v, .int .i64 q] w fun e w' => e = .returned (.int .i64 (q + n)) ∧ w'.ownsRow base e0 1 v n ((marks q n).map (Value.int .u8)) ∧ Below base w w' ∧ w'.heap.size = w.heap.size ∧ Only v.ownBlock w w' := by
  have hl : xs.length = n := by simpa using hown.1
  rcases hown.2 with ⟨rfl, h0⟩ | ⟨g, cap, cur, rfl, hg, hh, r⟩
  · subst h0
    obtain rfl : xs = [] := List.eq_nil_of_length_eq_zero hl
    refine (mark_nil q _ w (row_of_owns hown)).mono ?_
    rintro e w' ⟨rfl, rfl⟩
    exact ⟨by simp, hown, Below.refl _ _, rfl, Only.refl _ _⟩
  · refine (mark_core q n base g cap xs w hn hq0 hq1 hg hl hown).mono ?_
    rintro e w' ⟨rfl, ⟨ys, hy, hm, ho⟩, hb, hz, hon⟩
    have : ys = marks q n := by
      apply List.ext_getElem (by rw [hy, marks_length])
      intro i h1 h2
      have e1 := hm i (by omega)
      have e2 := marks_at q n i (by omega)
      simp only [List.getD, List.getElem?_eq_getElem h1, List.getElem?_eq_getElem h2, Option.getD_some] at e1 e2
      rw [e1, e2]
    subst this
    exact ⟨rfl, ho, hb, hz, hon⟩
end Go.Proofs.YtohooehbjbhhhaaDoor

namespace Go.Proofs.YtohooehbjbhhhaaDoor
open Go.RowKit
set_option linter.unusedVariables false

/-- The blocks of a frame's lists. -/
abbrev dsB (d s : Value) : Nat → Prop := fun k => d.ownBlock = some k ∨ s.ownBlock = some k
set_option maxRecDepth 20000 in
set_option maxHeartbeats 2000000 in
theorem markHFp (f : HF) (d s : Value) (B : Nat) (w : World) (hd : w.ownsRow B 5 1 d f.d.length (f.d.map (Value.int .u8))) (h : GOwns 40 2 w B s (SSetting.L f.s)) (hap : ∀ k, d.ownBlock = some k → s.ownBlock ≠ some k) (hn : f.d.length ≤ 1048576) (hm : f.s.length ≤ 1048576) :
    Calls Tryd.prog 10 #[hV f d s, .int .i64 1] w fun e w' => e = .returned (.int .i64 (1 + (f.d.length : Int) + 2 * (f.s.length : Int))) ∧ Row w' .u8 d (marks 1 f.d.length) ∧ GRow 2 w' s (marksSetting (1 + (f.d.length : Int)) f.s.length) ∧ Chg (dsB d s) w w' := by
  have b0 : Below w.heap.size w (w.alloc (.cells #[.int .i64 f.k, .int .i64 f.a, d, s] 25)) := (Below.refl _ _).alloc (Nat.le_refl _) _
  have C1 := markBytes 1 f.d.length B d f.d _ (by omega) (by decide) (by decide) (owns_below hd b0)
  have dl : ∀ k, d.ownBlock = some k → k < w.heap.size := fun k e => (hd.lt k e).2
  have C2 : ∀ u, Only d.ownBlock (w.alloc (.cells #[.int .i64 f.k, .int .i64 f.a, d, s] 25)) u → _ := fun u hu => markSettingS (1 + (f.d.length : Int)) B s (SSetting.L f.s) u (by rw [List.length_map]; omega) (by omega) (by omega) (GOwns.only hu (h.below b0) (fun k hk e => hap k e.symm hk))
  have hro := srow_form h.row
  have hrd := (row_of_owns hd).form
  have bk : (w.alloc (.cells #[.int .i64 f.k, .int .i64 f.a, d, s] 25)).heap[w.heap.size]? = some (.cells #[.int .i64 f.k, .int .i64 f.a, d, s] 25 (0, 0)) := (MapKept.heap_alloc w _).1
  obtain ⟨ao, cp, rfl⟩ := hro
  obtain ⟨bo, cd, rfl⟩ := hrd
  rw [List.length_map] at C2
  obtain ⟨n, en⟩ : ∃ n, n = f.d.length := ⟨_, rfl⟩
  obtain ⟨m, em⟩ : ∃ m, m = f.s.length := ⟨_, rfl⟩
  rw [← en, ← em] at b0 C1 C2 bk ⊢
  rw [← en] at dl hap
  rw [← em] at hap
  have H : Hid _ := And.intro C1 (And.intro C2 (And.intro b0 (And.intro hap (And.intro dl bk))))
  have hnn : n ≤ 1048576 := by omega
  clear C1 C2 b0 dl bk hd h hap hn hm en em
  unfold hV
  obtain ⟨k, a, D, S⟩ := f
  simp only at *
  go_enter Tryd.func10, Tryd.ntmps10
  go_wp2_with fail
  go_at_call 9
  refine H.out.1.mono ?_
  rintro e w1 ⟨rfl, o1, b1, z1, n1⟩
  have q1 := (n1.block w.heap.size (fun e => by have := H.out.2.2.2.2.1 _ e.symm; omega)).trans H.out.2.2.2.2.2
  have c3 : w1.cell? ⟨w.heap.size, 3, none⟩ = some (.slice ao m cp) := by rw [bk_cell q1]; rfl
  have H1 : Hid _ := And.intro n1 o1
  clear o1 b1 z1 n1 q1
  go_wp2_with fail
  go_at_call 25
  refine (H.out.2.1 _ H1.out.1).mono ?_
  rintro e w2 ⟨rfl, o2, b2, z2, n2⟩
  have o1' := n2.owns H1.out.2 (fun q hq e => H.out.2.2.2.1 q hq e.symm)
  have H2 : Hid _ := And.intro n2 (And.intro o2 o1')
  clear o2 b2 z2 n2 o1'
  go_wp2
  go_ret
  refine ⟨by first | rfl | (congr 2; omega), ?_, H2.out.2.1.row, ?_⟩
  · exact row_of_owns H2.out.2.2
  · exact (Chg.of_below H.out.2.2.1).trans ((Chg.of_only H1.out.1 (fun k e => Or.inl e)).trans (Chg.of_only H2.out.1 (fun k e => Or.inr e)))
set_option maxRecDepth 20000 in
set_option maxHeartbeats 2000000 in
theorem heldHFp (f : HF) (d s : Value) (w : World) (hd : Row w .u8 d (marks 1 f.d.length)) (h : GRow 2 w s (marksSetting (1 + (f.d.length : Int)) f.s.length)) (hn : f.d.length ≤ 1048576) (hm : f.s.length ≤ 1048576) :
    Calls Tryd.prog 11 #[hV f d s, .int .i64 1] w fun e w' => e = .returned (.int .i64 (1 + (f.d.length : Int) + 2 * (f.s.length : Int))) ∧ Below w.heap.size w w' := by
  have b0 : Below w.heap.size w (w.alloc (.cells #[.int .i64 f.k, .int .i64 f.a, d, s] 25)) := (Below.refl _ _).alloc (Nat.le_refl _) _
  have C1 := heldBytes 1 f.d.length d _ (hd.below b0) (by omega) (by decide) (by decide)
  have C2 := heldSettingS (1 + (f.d.length : Int)) f.s.length s _ (h.below b0) (by omega) (by omega) (by omega)
  obtain ⟨ao, cp, es⟩ := h.form
  obtain ⟨bo, cd, ed⟩ := hd.form
  rw [marksSetting_length] at es
  have e3 : (marks 1 f.d.length).length = f.d.length := by simp [marks]
  rw [e3] at ed
  subst es
  subst ed
  obtain ⟨n, en⟩ : ∃ n, n = f.d.length := ⟨_, rfl⟩
  obtain ⟨m, em⟩ : ∃ m, m = f.s.length := ⟨_, rfl⟩
  rw [← en, ← em] at b0 C1 C2 ⊢
  have p1 : (0 : Int) ≤ 1 + (n : Int) := by omega
  have p2 : (0 : Int) ≤ 1 + (n : Int) + 2 * (m : Int) := by omega
  have H : Hid _ := And.intro C1 (And.intro C2 b0)
  clear C1 C2 b0 hd h hn hm en em e3
  unfold hV
  obtain ⟨k, a, D, S⟩ := f
  simp only at *
  obtain ⟨K2, eK2⟩ : ∃ K2, K2 = 1 + (n : Int) + 2 * (m : Int) := ⟨_, rfl⟩
  obtain ⟨K1, eK1⟩ : ∃ K1, K1 = 1 + (n : Int) := ⟨_, rfl⟩
  rw [← eK1] at p1 p2 eK2 H ⊢
  rw [← eK2] at p2 H ⊢
  clear eK1 eK2
  go_enter Tryd.func11, Tryd.ntmps11
  go_wp2_with fail
  go_at_call 26
  refine H.out.1.mono ?_
  rintro e w1 ⟨rfl, hw1⟩
  subst hw1
  go_wp2_with fail
  go_at_call 27
  refine H.out.2.1.mono ?_
  rintro e w1 ⟨rfl, hw1⟩
  subst hw1
  go_wp2
  go_ret
  exact ⟨rfl, H.out.2.2⟩
end Go.Proofs.YtohooehbjbhhhaaDoor

namespace Go.Proofs.YtohooehbjbhhhaaDoor
open Go.RowKit
set_option linter.unusedVariables false

set_option maxRecDepth 20000 in
set_option maxHeartbeats 4000000 in
theorem rhS_7 (b off n cap p : Nat) (xs : List Int) (w : World) (hl : Lies w b off n cap xs) (hB : Bytes xs) (hn : n ≤ 65536) (hp : p ≤ n) (hv : varOK xs p) (hv2 : varOK xs (varN xs p)) (m Q2 : Nat) (em : varV xs (varN xs p) = (m : Int)) (eQ2 : varN xs (varN xs p) = Q2) (hbig : ¬ 16384 < m) (hfit : Q2 + m ≤ n) (hk : varV xs p = 7) (hy : varOK (sub xs Q2 m) 0) (hNm : varN (sub xs Q2 m) 0 = m) :
    Calls Tryd.prog 4 #[.slice (some ⟨b, off, none⟩) n cap, .int .i64 (p : Int)] w fun e w' => RhA' w.heap.size e w' (rhV (rhT xs p)) ∧ Below w.heap.size w w' := by
  have hRT := res_no xs p m Q2 (varV xs p) (sub xs Q2 m) hv hv2 em eQ2 hbig (by have := hl.len; omega) rfl rfl
  obtain ⟨h1, h2, h3⟩ := rsW_facts w (p : Int) (some ⟨b, off, none⟩) n cap
  have hbl := hl.lt
  have V1 := variableS_ok (w.heap.size + 1) b off n cap p xs _ h2 (hl.below h3) hB hn hv
  have hlen := hl.len
  have hb1 := varN_bd xs p hv
  have LI : ∀ u, Chg (· = w.heap.size + 1) (rsW w (p : Int) (some ⟨b, off, none⟩) n cap) u → Lies u b off n cap xs := fun u hc => (hl.below h3).chg hc (by omega)
  have hd1 : ¬ (65536 : Int) < (n : Int) := by omega
  have hd2 : ¬ (p : Int) < 0 := by omega
  have hd3 : ¬ (n : Int) < (p : Int) := by omega
  obtain ⟨K, eK⟩ : ∃ K, K = varV xs p := ⟨_, rfl⟩
  rw [← eK] at V1
  have HH : Hid _ := And.intro V1 (And.intro LI (And.intro hB (And.intro eK (And.intro hv hb1))))
  clear V1 h1 h2 h3 hl hB eK LI hv
  rw [← HH.out.2.2.2.1] at hRT hk
  have HK : Hid _ := And.intro hk True.intro
  clear hk
  have hbg : ¬ (16384 : Int) < (m : Int) := by omega
  go_enter Tryd.func4, Tryd.ntmps4
  go_wp2_with fail
  go_at_call 12
  refine HH.out.1.mono ?_
  rintro e w2 ⟨rfl, r2, c2⟩
  have C3 : Chg (· = w.heap.size + 1) (rsW w (p : Int) (some ⟨b, off, none⟩) n cap) (w2.alloc (.cells #[.int .i64 K, .int .i64 0, .slice none 0 0, .slice none 0 0] 25)) := c2.trans (Chg.of_below ((Below.refl _ _).alloc (Nat.le_refl _) _))
  have R3 : srB (w2.alloc (.cells #[.int .i64 K, .int .i64 0, .slice none 0 0, .slice none 0 0] 25)) (w.heap.size + 1) (.slice (some ⟨b, off, none⟩) n cap) ((varN xs p : Nat) : Int) false := r2.below ((Below.refl _ _).alloc (Nat.le_refl _) _)
  have F3 : fB (w2.alloc (.cells #[.int .i64 K, .int .i64 0, .slice none 0 0, .slice none 0 0] 25)) w2.heap.size K 0 (.slice none 0 0) (.slice none 0 0) := heap_alloc_new w2 _
  have hgF : w2.heap.size ≠ w.heap.size + 1 := by have := r2.lt; omega
  have hzF : w.heap.size + 2 ≤ w2.heap.size := by have := r2.lt; omega
  have H3 : Hid _ := And.intro C3 (And.intro R3 F3)
  clear C3 R3 F3 r2 c2
  have V2 := variableS_ok (w.heap.size + 1) b off n cap (varN xs p) xs _ H3.out.2.1 (HH.out.2.1 _ H3.out.1) HH.out.2.2.1 hn hv2
  rw [em, eQ2] at V2
  go_wp2_with fail
  go_at_call 12
  refine V2.mono ?_
  rintro e w4 ⟨rfl, r4, c4⟩
  have s4 := r4.c2
  have C4 := H3.out.1.trans c4
  have T4 := takeS_ok (w.heap.size + 1) b off n cap Q2 m xs w4 r4 (HH.out.2.1 _ C4) (by omega) hn hfit
  have F4 := H3.out.2.2.chg c4 hgF
  have H4 : Hid _ := And.intro C4 (And.intro T4 F4)
  have hys := sub_bytes HH.out.2.2.1 Q2 m
  have hyl : (sub xs Q2 m).length = m := sub_len xs Q2 m (by omega)
  have hKe : K = varV xs p := HH.out.2.2.2.1
  obtain ⟨ys, eys⟩ : ∃ ys, ys = sub xs Q2 m := ⟨_, rfl⟩
  rw [← eys] at hys hyl H4 hRT hy hNm
  have HY : Hid _ := And.intro hys (And.intro hyl (And.intro hKe eys))
  clear C4 V2 c4 r4 em eQ2 T4 F4 hys hyl hKe eys
  go_wp2_with fail
  go_at_call 13
  refine H4.out.2.1.mono ?_
  rintro e w5 ⟨v, rfl, o5, r5, c5⟩
  obtain ⟨va, vc, rfl, pay5, hvl⟩ := pay_of_owns o5
  have b6 : Below w5.heap.size w5 (w5.alloc (.cells #[.slice va m vc, .int .i64 0, .bool false] 36)) := (Below.refl _ _).alloc (Nat.le_refl _) _
  have C6 : Chg (· = w.heap.size + 1) (rsW w (p : Int) (some ⟨b, off, none⟩) n cap) (w5.alloc (.cells #[.slice va m vc, .int .i64 0, .bool false] 36)) := (H4.out.1.trans c5).trans (Chg.of_below b6)
  obtain ⟨K6, B6⟩ := rs_R C6
  have R6 := r5.below b6
  have F6 : fB (w5.alloc (.cells #[.slice va m vc, .int .i64 0, .bool false] 36)) w2.heap.size K 0 (.slice none 0 0) (.slice none 0 0) := (H4.out.2.2.chg c5 hgF).chg (S := fun _ => False) (Chg.of_below b6) (fun h => h)
  have G6 : srB (w5.alloc (.cells #[.slice va m vc, .int .i64 0, .bool false] 36)) w5.heap.size (.slice va m vc) 0 false := heap_alloc_new w5 _
  have P6 : Pay (w5.alloc (.cells #[.slice va m vc, .int .i64 0, .bool false] 36)) va m vc ys := pay5.chg (S := fun _ => False) (Chg.of_below b6) (fun _ _ _ h => h)
  have hz5 : w2.heap.size < w5.heap.size := by have h1 := H4.out.2.2.lt; have h2 := c5.size; omega
  have hoff : Off va (SG w5.heap.size w2.heap.size) := fun b' off' e h => by
    have h1 := hvl b' off' e
    have h2 := H4.out.2.2.lt
    rcases h with h | h <;> omega
  have hg5 : w.heap.size + 1 < w5.heap.size := by have := r5.lt; exact this
  have hsz6 : w5.heap.size < (w5.alloc (.cells #[.slice va m vc, .int .i64 0, .bool false] 36)).heap.size := by simp
  have s6 := R6.c2
  have k6 := F6.c0
  have H6 : Hid _ := And.intro K6 (And.intro B6 (And.intro R6 (And.intro F6 (And.intro G6 (And.intro P6 hoff)))))
  clear K6 B6 R6 F6 G6 P6 hoff o5 r5 c5 pay5 hvl b6 C6 s4
  have d4 : (K == 4) = false := by rw [HK.out.1]; rfl
  have d7 : (K == 7) = true := by rw [HK.out.1]; rfl
  have d15 : (K == 15) = false := by rw [HK.out.1]; rfl
  have hF : rhF K ys = some ⟨K, varV ys 0, ys.drop (varN ys 0), []⟩ := by unfold rhF; rw [if_neg (by have := HK.out.1; omega), if_pos (by have := HK.out.1; omega), if_pos hy]
  rw [hF] at hRT
  simp only at hRT
  clear hF
  have V0 := varSP w5.heap.size va m vc 0 ys _ H6.out.2.2.2.2.1 H6.out.2.2.2.2.2.1 HY.out.1 (by omega) hy
  have hNb := varN_bd ys 0 hy
  have hLy := HY.out.2.1
  generalize varV ys 0 = A1 at V0 hRT hNb hNm
  generalize varN ys 0 = N at V0 hRT hNb hNm
  have hdr : ys.drop N = [] := List.drop_of_length_le (by omega)
  rw [hdr] at hRT
  rw [hNm] at V0
  clear hNm hNb
  have V6 := V0
  have HV6 : Hid _ := And.intro V6 hRT
  clear V6 hRT
  go_wp2_with fail
  go_at_call 12
  refine HV6.out.1.mono ?_
  rintro e w7 ⟨rfl, r7, c7⟩
  have hzw : w.heap.size < (w5.alloc (.cells #[.slice va m vc, .int .i64 0, .bool false] 36)).heap.size := by have := H6.out.2.1.size; simp at this ⊢; omega
  have F7 := H6.out.2.2.2.1.chg c7 (by omega)
  have K7 := (c7.block w.heap.size hzw (by omega)).trans H6.out.1
  have B7 : Below w.heap.size w w7 := H6.out.2.1.trans (c7.below H6.out.2.1.size (fun k hk => by omega))
  have R7 := H6.out.2.2.1.chg c7 (by omega)
  have P7 := H6.out.2.2.2.2.2.1.chg c7 (fun b' off' e h => H6.out.2.2.2.2.2.2 b' off' e (Or.inl h))
  have f1 := F7.c1
  have ff1 := F7.fr 1
  have hz7 := c7.size
  clear V0
  have K8 : (w7.setCell ⟨w2.heap.size, 1, none⟩ (.int .i64 A1)).heap[w.heap.size]? = some zfO := (bk_other (by omega) 1 _).trans K7
  have B8 : Below w.heap.size w (w7.setCell ⟨w2.heap.size, 1, none⟩ (.int .i64 A1)) := B7.setCell (by simp; omega) _
  have R8 : srB (w7.setCell ⟨w2.heap.size, 1, none⟩ (.int .i64 A1)) (w.heap.size + 1) (.slice (some ⟨b, off, none⟩) n cap) ((Q2 + m : Nat) : Int) false := (bk_other (by omega) 1 _).trans R7
  have F8 : fB (w7.setCell ⟨w2.heap.size, 1, none⟩ (.int .i64 A1)) w2.heap.size K A1 (.slice none 0 0) (.slice none 0 0) := F7.set1 _
  have G8 : srB (w7.setCell ⟨w2.heap.size, 1, none⟩ (.int .i64 A1)) w5.heap.size (.slice va m vc) (m : Int) false := (bk_other (by omega) 1 _).trans r7
  have P8 : Pay (w7.setCell ⟨w2.heap.size, 1, none⟩ (.int .i64 A1)) va m vc ys := P7.chg (S := (· = w2.heap.size)) ((Chg.refl _ w7).set w2.heap.size 1 _ rfl) (fun b' off' e h => H6.out.2.2.2.2.2.2 b' off' e (Or.inr h))
  have hz8 : (w7.setCell ⟨w2.heap.size, 1, none⟩ (.int .i64 A1)).heap.size = w7.heap.size := by simp [World.setCell]
  have H8 : Hid _ := And.intro K8 (And.intro B8 (And.intro R8 (And.intro F8 (And.intro G8 (And.intro P8 hz8)))))
  clear K8 B8 R8 F8 G8 P8 hz8 K7 B7 R7 F7 P7 r7 c7
  have hz8 := H8.out.2.2.2.2.2.2
  have HLN : Hid ((0 : Nat) ≤ 65536 ∧ ([] : List SSetting).length = 0) := ⟨by omega, rfl⟩
  clear hLy hdr
  go_upto_region 24 with fail
  have tR : (w7.setCell ⟨w2.heap.size, 1, none⟩ (.int .i64 A1)).heap[w.heap.size]? = some zfO := H8.out.1
  have tB : Below w.heap.size w (w7.setCell ⟨w2.heap.size, 1, none⟩ (.int .i64 A1)) := H8.out.2.1
  have tg : srB (w7.setCell ⟨w2.heap.size, 1, none⟩ (.int .i64 A1)) (w.heap.size + 1) (.slice (some ⟨b, off, none⟩) n cap) ((Q2 + m : Nat) : Int) false := H8.out.2.2.1
  have tG : srB (w7.setCell ⟨w2.heap.size, 1, none⟩ (.int .i64 A1)) w5.heap.size (.slice va m vc) (m : Int) false := H8.out.2.2.2.2.1
  have tF : fB (w7.setCell ⟨w2.heap.size, 1, none⟩ (.int .i64 A1)) w2.heap.size K A1 (.slice none 0 0) (.slice none 0 0) := H8.out.2.2.2.1
  have l0 := tG.c0
  have l1 := tG.c1
  have l2 := tG.c2
  have m0 := tF.c0
  have m1 := tF.c1
  have m2 := tF.c2
  have m3 := tF.c3
  have hmm : ((m : Int) != (m : Int)) = false := by simp
  have HO := hokS K A1 none 0 0 (.slice none 0 0) [] (w7.setCell ⟨w2.heap.size, 1, none⟩ (.int .i64 A1)).drew ((GOwns.nil 40 2 (w7.setCell ⟨w2.heap.size, 1, none⟩ (.int .i64 A1)) (w5.alloc (.cells #[.slice va m vc, .int .i64 0, .bool false] 36)).heap.size)).row (by have := HLN.out; omega) (by have := HLN.out; omega)
  obtain ⟨ok, eok⟩ : ∃ ok, ok = decide (hyP K A1 0 []) := ⟨_, rfl⟩
  rw [← eok] at HO
  have KK : Hid (∀ u, Below (w7.setCell ⟨w2.heap.size, 1, none⟩ (.int .i64 A1)).drew.heap.size (w7.setCell ⟨w2.heap.size, 1, none⟩ (.int .i64 A1)).drew u → u.heap[w.heap.size]? = some zfO ∧ Below w.heap.size w u ∧ srB u (w.heap.size + 1) (.slice (some ⟨b, off, none⟩) n cap) ((Q2 + m : Nat) : Int) false ∧ fB u w2.heap.size K A1 (.slice none 0 0) (.slice none 0 0)) := fun u hu =>
    ⟨(hu.block w.heap.size (Array.getElem?_eq_some_iff.1 tR).1).trans tR, tB.trans (((below_drewN (Below.refl _ _) 1).trans hu).mono tB.size), (hu.block _ tg.lt).trans tg, (hu.block _ tF.lt).trans tF⟩
  have KG : Hid (∀ u, Below (w7.setCell ⟨w2.heap.size, 1, none⟩ (.int .i64 A1)).drew.heap.size (w7.setCell ⟨w2.heap.size, 1, none⟩ (.int .i64 A1)).drew u → u.cell? ⟨w5.heap.size, 0, none⟩ = some (.slice va m vc) ∧ u.cell? ⟨w5.heap.size, 1, none⟩ = some (.int .i64 (m : Int)) ∧ u.cell? ⟨w5.heap.size, 2, none⟩ = some (.bool false)) := fun u hu => by
    have q : srB u w5.heap.size (.slice va m vc) (m : Int) false := (hu.block _ tG.lt).trans tG
    exact ⟨q.c0, q.c1, q.c2⟩
  have HT : Hid _ := And.intro HO eok
  clear tR tB tg tG tF HO eok
  cases ok with
  | false =>
    have HRes : Hid _ := And.intro ((fun e => res_bad (f := ⟨K, A1, [], []⟩) HV6.out.2 (by show ¬ hyP K A1 0 []; exact of_decide_eq_false e.symm)) HT.out.2) True.intro
    go_wp2_with fail
    go_region_held3 (fun w' => w'.cell? ⟨w5.heap.size, 0, none⟩ = some (.slice va m vc) ∧ w'.cell? ⟨w5.heap.size, 1, none⟩ = some (.int .i64 (m : Int)) ∧ w'.cell? ⟨w5.heap.size, 2, none⟩ = some (.bool false) ∧ w'.cell? ⟨w2.heap.size, 0, none⟩ = some (.int .i64 K) ∧ w'.cell? ⟨w2.heap.size, 1, none⟩ = some (.int .i64 A1) ∧ w'.cell? ⟨w2.heap.size, 2, none⟩ = some (.slice none 0 0) ∧ w'.cell? ⟨w2.heap.size, 3, none⟩ = some (.slice none 0 0)) (go_keep)
      (first | (go_at_call 15; refine HT.out.1.mono ?_; rintro e wy ⟨rfl, by'⟩; obtain ⟨t0, t1, t2⟩ := KG.out wy by'; obtain ⟨u1, u2, u3, u4⟩ := KK.out wy by'; have v0 := u4.c0; have v1 := u4.c1; have v2 := u4.c2; have v3 := u4.c3; have HX : Hid _ := And.intro u1 (And.intro u2 (And.intro by' (And.intro u3 u4))); clear by' u1 u2 u3 u4))
    all_goals
      obtain ⟨z0, z1, z2, z3, y0, y1, y2, y3⟩ := z4 (HX.out.1)
      have HZ : Hid _ := And.intro (HX.out.2.1) (HX.out.1)
      go_wp2_with fail
      refine bodyPost_ret (v := .tuple #[.agg #[.int .i64 0, .int .i64 0, .slice none 0 0, .slice none 0 0], .int .i64 0, .int .i64 3]) ?_ rfl ?_
      · refine results_row_tmp2R (t := 25) rfl _ _ w.heap.size _ (fr := (0, 0)) _ _ _ rfl rfl rfl ?_ Tryd.underlying25 rfl infoHF
        exact st4_heap (w := wy) HZ.out.2
      · rw [HRes.out.1]
        exact ⟨⟨.slice none 0 0, .slice none 0 0, rfl, World.ownsRow_nil _ _ _ _, GOwns.nil _ _ _ _, fun j h => by cases h⟩, ((((HZ.out.1).setCell (by simp) _).setCell (by simp) _).setCell (by simp) _).setCell (by simp) _⟩
  | true =>
    have HRes : Hid _ := And.intro ((fun e => res_good (f := ⟨K, A1, [], []⟩) HV6.out.2 (by show hyP K A1 0 []; exact of_decide_eq_true e.symm)) HT.out.2) True.intro
    go_wp2_with fail
    go_region_held3 (fun w' => w'.cell? ⟨w5.heap.size, 0, none⟩ = some (.slice va m vc) ∧ w'.cell? ⟨w5.heap.size, 1, none⟩ = some (.int .i64 (m : Int)) ∧ w'.cell? ⟨w5.heap.size, 2, none⟩ = some (.bool false) ∧ w'.cell? ⟨w2.heap.size, 0, none⟩ = some (.int .i64 K) ∧ w'.cell? ⟨w2.heap.size, 1, none⟩ = some (.int .i64 A1) ∧ w'.cell? ⟨w2.heap.size, 2, none⟩ = some (.slice none 0 0) ∧ w'.cell? ⟨w2.heap.size, 3, none⟩ = some (.slice none 0 0)) (go_keep)
      (first | (go_at_call 15; refine HT.out.1.mono ?_; rintro e wy ⟨rfl, by'⟩; obtain ⟨t0, t1, t2⟩ := KG.out wy by'; obtain ⟨u1, u2, u3, u4⟩ := KK.out wy by'; have v0 := u4.c0; have v1 := u4.c1; have v2 := u4.c2; have v3 := u4.c3; have HX : Hid _ := And.intro u1 (And.intro u2 (And.intro by' (And.intro u3 u4))); clear by' u1 u2 u3 u4))
    all_goals
      obtain ⟨z0, z1, z2, z3, y0, y1, y2, y3⟩ := z4 HX.out.1
      have q1 := HX.out.2.2.2.1.c1
      have n0 := HX.out.2.2.2.2.c0
      have n1 := HX.out.2.2.2.2.c1
      have n2 := HX.out.2.2.2.2.c2
      have n3 := HX.out.2.2.2.2.c3
      go_wp2_with fail
      go_region
      all_goals
        go_wp2_with fail
        refine bodyPost_ret (v := .tuple #[.agg #[.int .i64 K, .int .i64 A1, .slice none 0 0, (.slice none 0 0)], .int .i64 ((Q2 + m : Nat) : Int), .int .i64 0]) ?_ rfl ?_
        · refine results_row_tmp2R (t := 25) rfl _ _ w.heap.size _ (fr := (0, 0)) _ _ _ rfl rfl rfl ?_ Tryd.underlying25 rfl infoHF
          exact st4_heap (w := wy.drew) HX.out.1
        · rw [HRes.out.1]
          have bxy : Below (w7.setCell ⟨w2.heap.size, 1, none⟩ (.int .i64 A1)).heap.size (w7.setCell ⟨w2.heap.size, 1, none⟩ (.int .i64 A1)) wy.drew := below_drewN ((below_drewN (Below.refl (w7.setCell ⟨w2.heap.size, 1, none⟩ (.int .i64 A1)).heap.size (w7.setCell ⟨w2.heap.size, 1, none⟩ (.int .i64 A1))) 1).trans HX.out.2.2.1) 1
          refine ⟨⟨_, _, rfl, ?_, ?_, fun j _ e => by cases e⟩, (((Below.setCell (below_drewN HX.out.2.1 1) (by simp) _).setCell (by simp) _).setCell (by simp) _).setCell (by simp) _⟩
          · have oD := owns_below (show (w7.setCell ⟨w2.heap.size, 1, none⟩ (.int .i64 A1)).ownsRow (w5.alloc (.cells #[.slice va m vc, .int .i64 0, .bool false] 36)).heap.size 5 1 (.slice none 0 0) 0 (([] : List Int).map (Value.int .u8)) from World.ownsRow_nil _ _ _ _) bxy
            exact owns_mono (own_setH (own_setH (own_setH (own_setH oD (by omega)) (by omega)) (by omega)) (by omega)) (by omega)
          · have oS := ((GOwns.nil 40 2 (w7.setCell ⟨w2.heap.size, 1, none⟩ (.int .i64 A1)) (w5.alloc (.cells #[.slice va m vc, .int .i64 0, .bool false] 36)).heap.size)).below bxy
            exact (gown_setH (gown_setH (gown_setH (gown_setH oS (by omega)) (by omega)) (by omega)) (by omega)).mono (by omega)
end Go.Proofs.YtohooehbjbhhhaaDoor

namespace Go.Proofs.YtohooehbjbhhhaaDoor
open Go.RowKit
set_option linter.unusedVariables false

theorem two_vars (G : Nat) (va : Option Addr) (m vc : Nat) (ys : List Int) (f p : Nat) (hB : Bytes ys) (hn : m ≤ 65536) (hl : ys.length = m) (hp : p < m) :
    ∃ (x y : Int) (p1 p2 : Nat) (sh1 sh2 : Bool), (∀ u, srB u G (.slice va m vc) (p : Int) false → Pay u va m vc ys → Calls Tryd.prog 12 #[.pointer (some ⟨G, 0, none⟩)] u fun e w' => e = .returned (.int .i64 x) ∧ srB w' G (.slice va m vc) (p1 : Int) sh1 ∧ Chg (· = G) u w') ∧
      (∀ u, srB u G (.slice va m vc) (p1 : Int) sh1 → Pay u va m vc ys → Calls Tryd.prog 12 #[.pointer (some ⟨G, 0, none⟩)] u fun e w' => e = .returned (.int .i64 y) ∧ srB w' G (.slice va m vc) (p2 : Int) sh2 ∧ Chg (· = G) u w') ∧
      ((sh2 = true ∧ prs ys (f + 1) p = none) ∨ (sh2 = false ∧ p < p2 ∧ p2 ≤ m ∧ prs ys (f + 1) p = (prs ys f p2).map (fun L => ⟨x, y⟩ :: L))) := by
  by_cases h1 : varOK ys p
  · have b1 := varN_bd ys p h1
    by_cases h2 : varOK ys (varN ys p)
    · have b2 := varN_bd ys _ h2
      refine ⟨varV ys p, varV ys (varN ys p), varN ys p, varN ys (varN ys p), false, false, fun u hs hP => varSP G va m vc p ys u hs hP hB hn h1, fun u hs hP => varSP G va m vc (varN ys p) ys u hs hP hB hn h2, Or.inr ⟨rfl, by omega, by omega, prs_yes ys f p (by omega) ⟨h1, h2⟩⟩⟩
    · refine ⟨varV ys p, 0, varN ys p, varN ys p, false, true, fun u hs hP => varSP G va m vc p ys u hs hP hB hn h1, fun u hs hP => varSPn G va m vc (varN ys p) ys u hs hP hB hn (by omega) h2, Or.inl ⟨rfl, prs_no ys _ p (by omega) (fun h => h2 h.2)⟩⟩
  · refine ⟨0, 0, p, p, true, true, fun u hs hP => varSPn G va m vc p ys u hs hP hB hn (by omega) h1, fun u hs hP => (variableS_sh G _ _ u hs).mono ?_, Or.inl ⟨rfl, prs_no ys _ p (by omega) (fun h => h1 h.1)⟩⟩
    rintro e w' ⟨rfl, rfl⟩
    exact ⟨rfl, hs, Chg.refl _ _⟩
/-- Amid the settings, in the model. -/
structure PmI (w W6 : World) (F G g Q2 : Nat) (K : Int) (sl : Value) (va : Option Addr) (m vc : Nat) (ys : List Int) (wr : World) (p f : Nat) (sh : Bool) (L : List SSetting) (s : Value) : Prop where
  kr : wr.heap[w.heap.size]? = some zfO
  bw : Below w.heap.size w wr
  rg : srB wr g sl ((Q2 + m : Nat) : Int) false
  fr : fB wr F K 0 (.slice none 0 0) s
  rG : srB wr G (.slice va m vc) (p : Int) sh
  py : Pay wr va m vc ys
  ow : GOwns 40 2 wr W6.heap.size s (SSetting.L L)
  sz : W6.heap.size ≤ wr.heap.size
  le : L.length + f ≤ m + 1
  al : (sh = true ∧ prs ys ys.length 0 = none) ∨ (sh = false ∧ p ≤ m ∧ m ≤ p + f ∧ prs ys ys.length 0 = (prs ys f p).map (fun M => L ++ M))
theorem res_good4 {xs : List Int} {p : Nat} {K : Int} {L : List SSetting} {q : Nat} (hK : K = 4) (h : rhT xs p = if hyP 4 0 0 L then .ok (⟨4, 0, [], L⟩, q) else .error 3) (hn : hyP 4 0 0 L) : rhV (rhT xs p) = (⟨K, 0, [], L⟩, (q : Int), 0) := by
  rw [h, if_pos hn, hK]; rfl
def msr (sh : Bool) (m p : Nat) : Nat := if sh then 0 else m - p + 1
set_option maxRecDepth 20000 in
set_option maxHeartbeats 4000000 in
theorem rhS_4 (b off n cap p : Nat) (xs : List Int) (w : World) (hl : Lies w b off n cap xs) (hB : Bytes xs) (hn : n ≤ 65536) (hp : p ≤ n) (hv : varOK xs p) (hv2 : varOK xs (varN xs p)) (m Q2 : Nat) (em : varV xs (varN xs p) = (m : Int)) (eQ2 : varN xs (varN xs p) = Q2) (hbig : ¬ 16384 < m) (hfit : Q2 + m ≤ n) (hk : varV xs p = 4) :
    Calls Tryd.prog 4 #[.slice (some ⟨b, off, none⟩) n cap, .int .i64 (p : Int)] w fun e w' => RhA' w.heap.size e w' (rhV (rhT xs p)) ∧ Below w.heap.size w w' := by
  have hRT := res_no xs p m Q2 (varV xs p) (sub xs Q2 m) hv hv2 em eQ2 hbig (by have := hl.len; omega) rfl rfl
  obtain ⟨h1, h2, h3⟩ := rsW_facts w (p : Int) (some ⟨b, off, none⟩) n cap
  have hbl := hl.lt
  have V1 := variableS_ok (w.heap.size + 1) b off n cap p xs _ h2 (hl.below h3) hB hn hv
  have hlen := hl.len
  have hb1 := varN_bd xs p hv
  have LI : ∀ u, Chg (· = w.heap.size + 1) (rsW w (p : Int) (some ⟨b, off, none⟩) n cap) u → Lies u b off n cap xs := fun u hc => (hl.below h3).chg hc (by omega)
  have hd1 : ¬ (65536 : Int) < (n : Int) := by omega
  have hd2 : ¬ (p : Int) < 0 := by omega
  have hd3 : ¬ (n : Int) < (p : Int) := by omega
  obtain ⟨K, eK⟩ : ∃ K, K = varV xs p := ⟨_, rfl⟩
  rw [← eK] at V1
  have HH : Hid _ := And.intro V1 (And.intro LI (And.intro hB (And.intro eK (And.intro hv hb1))))
  clear V1 h1 h2 h3 hl hB eK LI hv
  rw [← HH.out.2.2.2.1] at hRT hk
  have HK : Hid _ := And.intro hk True.intro
  clear hk
  have hbg : ¬ (16384 : Int) < (m : Int) := by omega
  go_enter Tryd.func4, Tryd.ntmps4
  go_wp2_with fail
  go_at_call 12
  refine HH.out.1.mono ?_
  rintro e w2 ⟨rfl, r2, c2⟩
  have C3 : Chg (· = w.heap.size + 1) (rsW w (p : Int) (some ⟨b, off, none⟩) n cap) (w2.alloc (.cells #[.int .i64 K, .int .i64 0, .slice none 0 0, .slice none 0 0] 25)) := c2.trans (Chg.of_below ((Below.refl _ _).alloc (Nat.le_refl _) _))
  have R3 : srB (w2.alloc (.cells #[.int .i64 K, .int .i64 0, .slice none 0 0, .slice none 0 0] 25)) (w.heap.size + 1) (.slice (some ⟨b, off, none⟩) n cap) ((varN xs p : Nat) : Int) false := r2.below ((Below.refl _ _).alloc (Nat.le_refl _) _)
  have F3 : fB (w2.alloc (.cells #[.int .i64 K, .int .i64 0, .slice none 0 0, .slice none 0 0] 25)) w2.heap.size K 0 (.slice none 0 0) (.slice none 0 0) := heap_alloc_new w2 _
  have hgF : w2.heap.size ≠ w.heap.size + 1 := by have := r2.lt; omega
  have hzF : w.heap.size + 2 ≤ w2.heap.size := by have := r2.lt; omega
  have H3 : Hid _ := And.intro C3 (And.intro R3 F3)
  clear C3 R3 F3 r2 c2
  have V2 := variableS_ok (w.heap.size + 1) b off n cap (varN xs p) xs _ H3.out.2.1 (HH.out.2.1 _ H3.out.1) HH.out.2.2.1 hn hv2
  rw [em, eQ2] at V2
  go_wp2_with fail
  go_at_call 12
  refine V2.mono ?_
  rintro e w4 ⟨rfl, r4, c4⟩
  have s4 := r4.c2
  have C4 := H3.out.1.trans c4
  have T4 := takeS_ok (w.heap.size + 1) b off n cap Q2 m xs w4 r4 (HH.out.2.1 _ C4) (by omega) hn hfit
  have F4 := H3.out.2.2.chg c4 hgF
  have H4 : Hid _ := And.intro C4 (And.intro T4 F4)
  have hys := sub_bytes HH.out.2.2.1 Q2 m
  have hyl : (sub xs Q2 m).length = m := sub_len xs Q2 m (by omega)
  have hKe : K = varV xs p := HH.out.2.2.2.1
  obtain ⟨ys, eys⟩ : ∃ ys, ys = sub xs Q2 m := ⟨_, rfl⟩
  rw [← eys] at hys hyl H4 hRT 
  have HY : Hid _ := And.intro hys (And.intro hyl (And.intro hKe eys))
  clear C4 V2 c4 r4 em eQ2 T4 F4 hys hyl hKe eys
  go_wp2_with fail
  go_at_call 13
  refine H4.out.2.1.mono ?_
  rintro e w5 ⟨v, rfl, o5, r5, c5⟩
  obtain ⟨va, vc, rfl, pay5, hvl⟩ := pay_of_owns o5
  have b6 : Below w5.heap.size w5 (w5.alloc (.cells #[.slice va m vc, .int .i64 0, .bool false] 36)) := (Below.refl _ _).alloc (Nat.le_refl _) _
  have C6 : Chg (· = w.heap.size + 1) (rsW w (p : Int) (some ⟨b, off, none⟩) n cap) (w5.alloc (.cells #[.slice va m vc, .int .i64 0, .bool false] 36)) := (H4.out.1.trans c5).trans (Chg.of_below b6)
  obtain ⟨K6, B6⟩ := rs_R C6
  have R6 := r5.below b6
  have F6 : fB (w5.alloc (.cells #[.slice va m vc, .int .i64 0, .bool false] 36)) w2.heap.size K 0 (.slice none 0 0) (.slice none 0 0) := (H4.out.2.2.chg c5 hgF).chg (S := fun _ => False) (Chg.of_below b6) (fun h => h)
  have G6 : srB (w5.alloc (.cells #[.slice va m vc, .int .i64 0, .bool false] 36)) w5.heap.size (.slice va m vc) 0 false := heap_alloc_new w5 _
  have P6 : Pay (w5.alloc (.cells #[.slice va m vc, .int .i64 0, .bool false] 36)) va m vc ys := pay5.chg (S := fun _ => False) (Chg.of_below b6) (fun _ _ _ h => h)
  have hz5 : w2.heap.size < w5.heap.size := by have h1 := H4.out.2.2.lt; have h2 := c5.size; omega
  have hoff : Off va (SG w5.heap.size w2.heap.size) := fun b' off' e h => by
    have h1 := hvl b' off' e
    have h2 := H4.out.2.2.lt
    rcases h with h | h <;> omega
  have hg5 : w.heap.size + 1 < w5.heap.size := by have := r5.lt; exact this
  have hsz6 : w5.heap.size < (w5.alloc (.cells #[.slice va m vc, .int .i64 0, .bool false] 36)).heap.size := by simp
  have s6 := R6.c2
  have k6 := F6.c0
  have H6 : Hid _ := And.intro K6 (And.intro B6 (And.intro R6 (And.intro F6 (And.intro G6 (And.intro P6 hoff)))))
  clear K6 B6 R6 F6 G6 P6 hoff o5 r5 c5 pay5 hvl b6 C6 s4
  have d4 : (K == 4) = true := by rw [HK.out.1]; rfl
  have hF : rhF K ys = (prs ys ys.length 0).map (fun L => ⟨4, 0, [], L⟩) := by unfold rhF; rw [if_pos HK.out.1]
  rw [hF] at hRT
  clear hF
  have hLy := HY.out.2.1
  have I0 : PmI w (w5.alloc (.cells #[.slice va m vc, .int .i64 0, .bool false] 36)) w2.heap.size w5.heap.size (w.heap.size + 1) Q2 K (.slice (some ⟨b, off, none⟩) n cap) va m vc ys (w5.alloc (.cells #[.slice va m vc, .int .i64 0, .bool false] 36)) 0 m false [] (.slice none 0 0) :=
    ⟨H6.out.1, H6.out.2.1, H6.out.2.2.1, H6.out.2.2.2.1, H6.out.2.2.2.2.1, H6.out.2.2.2.2.2.1, GOwns.nil _ _ _ _, Nat.le_refl _, by simp, Or.inr ⟨rfl, by omega, by omega, by rw [hLy]; cases prs ys m 0 <;> simp⟩⟩
  have HI0 : Hid _ := And.intro I0 hRT
  have hoffX : Hid (Off va (SG w5.heap.size w2.heap.size)) := H6.out.2.2.2.2.2.2
  have hbw : w.heap.size + 2 ≤ w2.heap.size := hzF
  have hvb : Hid (∀ b' off', va = some ⟨b', off', none⟩ → b' < w5.heap.size) := fun b' off' e => by
    rcases H6.out.2.2.2.2.2.1 with ⟨h, _⟩ | ⟨b2, o2, e2, hl2⟩
    · rw [h] at e; cases e
    · rw [e2] at e
      cases e
      have h1 := hl2.lt
      have h2 : b' ≠ w5.heap.size := fun h => H6.out.2.2.2.2.2.2 b' off' e2 (Or.inl h)
      simp at h1
      omega
  clear I0 hRT H6
  go_wp2_with fail
  go_loopg [] (m + 1) (fun q wr => ∃ p' f sh L s, q = msr sh m p' ∧ PmI w (w5.alloc (.cells #[.slice va m vc, .int .i64 0, .bool false] 36)) w2.heap.size w5.heap.size (w.heap.size + 1) Q2 K (.slice (some ⟨b, off, none⟩) n cap) va m vc ys wr p' f sh L s)
  case atStart => exact ⟨0, m, false, [], _, by simp [msr], HI0.out.1⟩
  case round =>
    obtain ⟨p', f, sh, L, s, rfl, I⟩ := hrel
    have l0 := I.rG.c0
    have l1 := I.rG.c1
    have l2 := I.rG.c2
    obtain ⟨sa, sc, es⟩ := srow_form I.ow.row
    obtain ⟨sn, esn⟩ : ∃ sn, sn = L.length := ⟨_, rfl⟩
    rw [← esn] at es
    subst es
    have HL : Hid _ := And.intro esn True.intro
    clear esn
    have HI : Hid _ := And.intro I True.intro
    by_cases hgo : sh = false ∧ p' < m
    · obtain ⟨rfl, hpm⟩ := hgo
      have hlt : (p' : Int) < (m : Int) := by omega
      obtain ⟨f', ef⟩ : ∃ f', f = f' + 1 := by
        rcases I.al with ⟨h, _⟩ | ⟨_, h1, h2, _⟩
        · cases h
        · exact ⟨f - 1, by omega⟩
      obtain ⟨x, y, p1, p2, sh1, sh2, V1, V2, hnx⟩ := two_vars w5.heap.size va m vc ys f' p' HY.out.1 (by omega) hLy hpm
      have hal : prs ys ys.length 0 = (prs ys f p').map (fun M => L ++ M) := by
        rcases I.al with ⟨h, _⟩ | ⟨_, _, _, h⟩
        · cases h
        · exact h
      rw [ef] at hal
      have hle : L.length + (f' + 1) ≤ m + 1 := by have := I.le; omega
      have hmf : m ≤ p' + (f' + 1) := by
        rcases I.al with ⟨h, _⟩ | ⟨_, h1, h2, _⟩
        · cases h
        · omega
      have HS : Hid _ := And.intro V1 (And.intro V2 (And.intro hnx (And.intro hal (And.intro hle hmf))))
      clear V1 V2 hnx hal hle hmf ef I
      go_wp2_with fail
      go_quiet (fail)
      have G1 : srB (wr.drewN nq) w5.heap.size (.slice va m vc) (p' : Int) false := HI.out.1.rG
      have P1 : Pay (wr.drewN nq) va m vc ys := HI.out.1.py.chg (S := fun _ => False) ⟨rfl, rfl, rfl, Nat.le_refl _, fun _ _ _ => rfl⟩ (fun _ _ _ h => h)
      have V1 := HS.out.1 _ G1 P1
      clear l0 l1 l2
      go_wp2_with fail
      go_at_call 12
      refine V1.mono ?_
      rintro e w8 ⟨rfl, r8, c8⟩
      have hoG : Off va (· = w5.heap.size) := fun b' off' e h => hoffX.out b' off' e (Or.inl h)
      have P8 := P1.chg c8 hoG
      have hszr := HI.out.1.sz
      have hsz6 : w5.heap.size < (w5.alloc (.cells #[.slice va m vc, .int .i64 0, .bool false] 36)).heap.size := by simp
      have kr8 : w8.heap[w.heap.size]? = some zfO := (c8.block w.heap.size (by show w.heap.size < wr.heap.size; omega) (by omega)).trans HI.out.1.kr
      have bw8 : Below w.heap.size w w8 := (below_drewN HI.out.1.bw nq).trans (c8.below (by have := HI.out.1.bw.size; exact this) (fun k hk => by omega))
      have rg8 : srB w8 (w.heap.size + 1) (.slice (some ⟨b, off, none⟩) n cap) ((Q2 + m : Nat) : Int) false := (show srB (wr.drewN nq) (w.heap.size + 1) (.slice (some ⟨b, off, none⟩) n cap) ((Q2 + m : Nat) : Int) false from HI.out.1.rg).chg c8 (by omega)
      have fr8 : fB w8 w2.heap.size K 0 (.slice none 0 0) (.slice sa sn sc) := (show fB (wr.drewN nq) w2.heap.size K 0 (.slice none 0 0) (.slice sa sn sc) from HI.out.1.fr).chg c8 (by omega)
      have ow8 : GOwns 40 2 w8 (w5.alloc (.cells #[.slice va m vc, .int .i64 0, .bool false] 36)).heap.size (.slice sa sn sc) (SSetting.L L) := (show GOwns 40 2 (wr.drewN nq) (w5.alloc (.cells #[.slice va m vc, .int .i64 0, .bool false] 36)).heap.size (.slice sa sn sc) (SSetting.L L) from HI.out.1.ow).chg c8 (fun k hk e => by omega)
      have sz8 : (w5.alloc (.cells #[.slice va m vc, .int .i64 0, .bool false] 36)).heap.size ≤ w8.heap.size := Nat.le_trans hszr c8.size
      have f3 : w8.drew.cell? ⟨w2.heap.size, 3, none⟩ = some (.slice sa sn sc) := fr8.c3
      have V2 := HS.out.2.1 w8.drew r8 (P8.chg (S := fun _ => False) ⟨rfl, rfl, rfl, Nat.le_refl _, fun _ _ _ => rfl⟩ (fun _ _ _ h => h))
      have H8 : Hid _ := And.intro kr8 (And.intro bw8 (And.intro rg8 (And.intro fr8 (And.intro ow8 (And.intro sz8 (And.intro P8 V2))))))
      clear kr8 bw8 rg8 fr8 ow8 P8 V2 r8 c8 V1 G1 P1
      go_wp2_with fail
      go_region_law (first
        | (go_simp; go_at_call 12; refine H8.out.2.2.2.2.2.2.2.mono ?_; rintro e wb ⟨rfl, rb, cb⟩
           have fb : fB wb w2.heap.size K 0 (.slice none 0 0) (.slice sa sn sc) := (show fB w8.drew w2.heap.size K 0 (.slice none 0 0) (.slice sa sn sc) from H8.out.2.2.2.1).chg cb (by omega)
           have f3b := fb.c3
           have ba : Below wb.heap.size wb (wb.alloc (.cells #[.int .i64 x, .int .i64 y] 40)) := (Below.refl _ _).alloc (Nat.le_refl _) _
           have f3c : (wb.alloc (.cells #[.int .i64 x, .int .i64 y] 40)).cell? ⟨w2.heap.size, 3, none⟩ = some (.slice sa sn sc) := (ba.cell (p := ⟨w2.heap.size, 3, none⟩) fb.lt).trans f3b
           have H9 : Hid _ := And.intro rb (And.intro cb (And.intro fb ba))
           clear cb rb fb ba)
        | (refine step_append_flat rfl _ _ 23 40 Tryd.underlying23 _ 2 16 infoSetting rfl (by decide) (by decide) rfl (w5.alloc (.cells #[.slice va m vc, .int .i64 0, .bool false] 36)).heap.size (.slice sa sn sc) (SSetting.L L) (SSetting.flat _) rfl (((show GOwns 40 2 w8.drew (w5.alloc (.cells #[.slice va m vc, .int .i64 0, .bool false] 36)).heap.size (.slice sa sn sc) (SSetting.L L) from H8.out.2.2.2.2.1).chg H9.out.2.1 (fun k hk e => by omega)).below H9.out.2.2.2) _ (SSetting.L [⟨x, y⟩]) (SSetting.flat _) rfl (lit_flat wb [.int .i64 x, .int .i64 y] 40) (by have := HS.out.2.2.2.2.1; simp; omega) (by have h1 := H9.out.2.1.size; have h3 : w8.drew.heap.size = w8.heap.size := rfl; simp; omega) ?_
           intro v5 w9 o9 g9
           have own9 : ∀ j, (Value.slice sa sn sc).ownBlock = some j → (w5.alloc (.cells #[.slice va m vc, .int .i64 0, .bool false] 36)).heap.size ≤ j := H8.out.2.2.2.2.1.own
           have hcs := H9.out.2.1.size
           have gb : ∀ k, k < w8.heap.size → k < (w5.alloc (.cells #[.slice va m vc, .int .i64 0, .bool false] 36)).heap.size → k ≠ w5.heap.size → w9.heap[k]? = w8.heap[k]? := fun k h1 h2 h3 => ((g9.block k (by have e3 : w8.drew.heap.size = w8.heap.size := rfl; simp; omega) (fun e => by have := own9 k e.symm; omega)).trans (Below.heap_alloc _ _ _ (by have e3 : w8.drew.heap.size = w8.heap.size := rfl; omega))).trans (H9.out.2.1.block k h1 h3)
           have hwb : w5.heap.size < wb.heap.size := H9.out.1.lt
           have rG9 : srB w9 w5.heap.size (.slice va m vc) (p2 : Int) sh2 := ((g9.block w5.heap.size (by simp; omega) (fun e => by have := own9 _ e.symm; omega)).trans (Below.heap_alloc _ _ _ hwb)).trans H9.out.1
           have fr9 : fB w9 w2.heap.size K 0 (.slice none 0 0) (.slice sa sn sc) := (gb _ (by omega) (by omega) (by omega)).trans H8.out.2.2.2.1
           have kr9 := (gb w.heap.size (by omega) (by omega) (by omega)).trans H8.out.1
           have rg9 : srB w9 (w.heap.size + 1) (.slice (some ⟨b, off, none⟩) n cap) ((Q2 + m : Nat) : Int) false := (gb _ (by omega) (by omega) (by omega)).trans H8.out.2.2.1
           have bw9 : Below w.heap.size w w9 := ((below_drewN H8.out.2.1 1).trans ((H9.out.2.1.below (B := w.heap.size) (by have := H8.out.2.1.size; exact this) (fun k hk => by omega)).trans (H9.out.2.2.2.mono (by have := H8.out.2.1.size; have e3 : w8.drew.heap.size = w8.heap.size := rfl; omega)))).grown g9 (by have := H8.out.2.1.size; have e3 : w8.drew.heap.size = w8.heap.size := rfl; simp; omega) (fun k hk => by have := own9 k hk; omega)
           have py9 : Pay w9 va m vc ys := by
             have p1 := (H8.out.2.2.2.2.2.2.1.chg (S := fun _ => False) (w' := w8.drew) ⟨rfl, rfl, rfl, Nat.le_refl _, fun _ _ _ => rfl⟩ (fun _ _ _ h => h)).chg H9.out.2.1 hoG
             rcases p1 with p1 | ⟨b', off', e', hl'⟩
             · exact Or.inl p1
             · exact Or.inr ⟨b', off', e', (hl'.below H9.out.2.2.2).chg (S := fun k => (w5.alloc (.cells #[.slice va m vc, .int .i64 0, .bool false] 36)).heap.size ≤ k) (grown_chg g9 own9) (by have := hvb.out b' off' e'; omega)⟩
           have sz9 : (w5.alloc (.cells #[.slice va m vc, .int .i64 0, .bool false] 36)).heap.size ≤ w9.heap.size := by have := g9.size; have e3 : w8.drew.heap.size = w8.heap.size := rfl; simp at this; omega
           obtain ⟨va5, vc5, e5⟩ := o9.row.form
           obtain ⟨n5, en5⟩ : ∃ n5, n5 = (SSetting.L L ++ SSetting.L [⟨x, y⟩]).length := ⟨_, rfl⟩
           rw [← en5] at e5
           clear en5
           subst e5
           have f39 := fr9.c3
           have ff39 := fr9.fr 3
           have HX : Hid _ := And.intro kr9 (And.intro bw9 (And.intro rg9 (And.intro fr9 (And.intro rG9 (And.intro py9 (And.intro o9 sz9))))))
           clear kr9 bw9 rg9 fr9 rG9 py9 o9 sz9 g9 gb own9 hcs hwb))
      all_goals
        go_wp2
        go_roundg (msr sh2 m p2)
        case measure =>
          rcases HS.out.2.2.1 with ⟨h, _⟩ | ⟨h, h1, h2, _⟩ <;> rw [h] <;> simp [msr] <;> omega
        case rel =>
          refine ⟨p2, f', sh2, L ++ [⟨x, y⟩], _, rfl, ⟨(bk_other (by omega) 3 _).trans HX.out.1, HX.out.2.1.setCell (by simp; omega) _, (bk_other (by omega) 3 _).trans HX.out.2.2.1, HX.out.2.2.2.1.set3 _, (bk_other (by omega) 3 _).trans HX.out.2.2.2.2.1, HX.out.2.2.2.2.2.1.chg (S := (· = w2.heap.size)) ((Chg.refl _ _).set w2.heap.size 3 _ rfl) (fun b' off' e h => hoffX.out b' off' e (Or.inr h)), ?_, by have := HX.out.2.2.2.2.2.2.2; simpa [World.setCell] using this, by have := HS.out.2.2.2.2.1; simp; omega, ?_⟩⟩
          · have o6 := HX.out.2.2.2.2.2.2.1
            rw [← List.map_append] at o6
            exact gown_setH o6 (by omega)
          · have hal := HS.out.2.2.2.1
            have hmf := HS.out.2.2.2.2.2
            rcases HS.out.2.2.1 with ⟨h, h1⟩ | ⟨h, h1, h2, h3⟩
            · exact Or.inl ⟨h, by rw [hal, h1]; rfl⟩
            · exact Or.inr ⟨h, h2, by omega, by rw [hal, h3, map_more]⟩
    · have IX : ∀ q, PmI w (w5.alloc (.cells #[.slice va m vc, .int .i64 0, .bool false] 36)) w2.heap.size w5.heap.size (w.heap.size + 1) Q2 K (.slice (some ⟨b, off, none⟩) n cap) va m vc ys (wr.drewN q) p' f sh L (.slice sa sn sc) := fun q => ⟨HI.out.1.kr, below_drewN HI.out.1.bw q, HI.out.1.rg, HI.out.1.fr, HI.out.1.rG, HI.out.1.py.chg (S := fun _ => False) ⟨rfl, rfl, rfl, Nat.le_refl _, fun _ _ _ => rfl⟩ (fun _ _ _ h => h), HI.out.1.ow, HI.out.1.sz, HI.out.1.le, HI.out.1.al⟩
      have HIX : Hid _ := And.intro IX True.intro
      clear IX I
      cases sh with
      | true =>
        have hnone : prs ys ys.length 0 = none := by
          rcases HI.out.1.al with ⟨_, h⟩ | ⟨h, _⟩
          · exact h
          · cases h
        have HRes : Hid (rhV (rhT xs p) = (zHF, 0, 3)) := by
          show rhV (rhT xs p) = (zHF, 0, 3)
          rw [HI0.out.2, hnone]
          rfl
        clear hnone hgo
        by_cases hpm : p' < m
        · have hlt : (p' : Int) < (m : Int) := by omega
          go_wp2_with fail
          go_quiet (fail)
          obtain ⟨wx, ewx⟩ : ∃ wx, wx = wr.drewN nq := ⟨_, rfl⟩
          rw [← ewx]
          have HP : Hid (PmI w (w5.alloc (.cells #[.slice va m vc, .int .i64 0, .bool false] 36)) w2.heap.size w5.heap.size (w.heap.size + 1) Q2 K (.slice (some ⟨b, off, none⟩) n cap) va m vc ys wx p' f true L (.slice sa sn sc)) := by rw [ewx]; exact HIX.out.1 nq
          clear ewx nq
          have tR : wx.heap[w.heap.size]? = some zfO := HP.out.kr
          have tB : Below w.heap.size w wx := HP.out.bw
          have tg : srB wx (w.heap.size + 1) (.slice (some ⟨b, off, none⟩) n cap) ((Q2 + m : Nat) : Int) false := HP.out.rg
          have tG : srB wx w5.heap.size (.slice va m vc) (p' : Int) true := HP.out.rG
          have tF : fB wx w2.heap.size K 0 (.slice none 0 0) (.slice sa sn sc) := HP.out.fr
          have l2 := tG.c2
          have HT : Hid _ := And.intro tR tB
          clear tR tB tg tG tF
          go_wp2_with fail
          go_quiet (fail)
          obtain ⟨z0, z1, z2, z3, y0, y1, y2, y3⟩ := z4 (HT.out.1)
          have HZ : Hid _ := And.intro (HT.out.2) (HT.out.1)
          go_wp2_with fail
          refine bodyPost_ret (v := .tuple #[.agg #[.int .i64 0, .int .i64 0, .slice none 0 0, .slice none 0 0], .int .i64 0, .int .i64 3]) ?_ rfl ?_
          · refine results_row_tmp2R (t := 25) rfl _ _ w.heap.size _ (fr := (0, 0)) _ _ _ rfl rfl rfl ?_ Tryd.underlying25 rfl infoHF
            exact st4_heap (w := wx.drewN nq) HZ.out.2
          · rw [HRes.out]
            exact ⟨⟨.slice none 0 0, .slice none 0 0, rfl, World.ownsRow_nil _ _ _ _, GOwns.nil _ _ _ _, fun j h => by cases h⟩, ((((below_drewN HZ.out.1 nq).setCell (by simp) _).setCell (by simp) _).setCell (by simp) _).setCell (by simp) _⟩
        · have hlt : ¬ (p' : Int) < (m : Int) := by omega
          go_wp2_with fail
          go_quiet (fail)
          obtain ⟨wx, ewx⟩ : ∃ wx, wx = wr.drewN nq := ⟨_, rfl⟩
          rw [← ewx]
          have HP : Hid (PmI w (w5.alloc (.cells #[.slice va m vc, .int .i64 0, .bool false] 36)) w2.heap.size w5.heap.size (w.heap.size + 1) Q2 K (.slice (some ⟨b, off, none⟩) n cap) va m vc ys wx p' f true L (.slice sa sn sc)) := by rw [ewx]; exact HIX.out.1 nq
          clear ewx nq
          have tR : wx.heap[w.heap.size]? = some zfO := HP.out.kr
          have tB : Below w.heap.size w wx := HP.out.bw
          have tg : srB wx (w.heap.size + 1) (.slice (some ⟨b, off, none⟩) n cap) ((Q2 + m : Nat) : Int) false := HP.out.rg
          have tG : srB wx w5.heap.size (.slice va m vc) (p' : Int) true := HP.out.rG
          have tF : fB wx w2.heap.size K 0 (.slice none 0 0) (.slice sa sn sc) := HP.out.fr
          have l2 := tG.c2
          have HT : Hid _ := And.intro tR tB
          clear tR tB tg tG tF
          go_wp2_with fail
          go_quiet (fail)
          obtain ⟨z0, z1, z2, z3, y0, y1, y2, y3⟩ := z4 (HT.out.1)
          have HZ : Hid _ := And.intro (HT.out.2) (HT.out.1)
          go_wp2_with fail
          refine bodyPost_ret (v := .tuple #[.agg #[.int .i64 0, .int .i64 0, .slice none 0 0, .slice none 0 0], .int .i64 0, .int .i64 3]) ?_ rfl ?_
          · refine results_row_tmp2R (t := 25) rfl _ _ w.heap.size _ (fr := (0, 0)) _ _ _ rfl rfl rfl ?_ Tryd.underlying25 rfl infoHF
            exact st4_heap (w := wx.drewN nq) HZ.out.2
          · rw [HRes.out]
            exact ⟨⟨.slice none 0 0, .slice none 0 0, rfl, World.ownsRow_nil _ _ _ _, GOwns.nil _ _ _ _, fun j h => by cases h⟩, ((((below_drewN HZ.out.1 nq).setCell (by simp) _).setCell (by simp) _).setCell (by simp) _).setCell (by simp) _⟩
      | false =>
        have hpe : p' = m := by
          rcases HI.out.1.al with ⟨h, _⟩ | ⟨_, h1, _, _⟩
          · cases h
          · have : ¬ p' < m := fun h => hgo ⟨rfl, h⟩
            omega
        subst hpe
        have hsome : prs ys ys.length 0 = some L := by
          rcases HI.out.1.al with ⟨h, _⟩ | ⟨_, _, _, h⟩
          · cases h
          · rw [h, prs_end ys f p' (by omega)]; simp
        have hRT : rhT xs p = if hyP 4 0 0 L then .ok (⟨4, 0, [], L⟩, Q2 + p') else .error 3 := by
          rw [HI0.out.2, hsome]
          rfl
        have hlL : L.length ≤ p' + 1 := by have := HI.out.1.le; omega
        have HR4 : Hid _ := And.intro hRT True.intro
        have HLN : Hid ((0 : Nat) ≤ 65536 ∧ L.length ≤ 65537) := ⟨by omega, by omega⟩
        have hlt : ¬ (p' : Int) < (p' : Int) := by omega
        clear hsome hRT hgo hlL
        go_wp2_with fail
        go_quiet (fail)
        obtain ⟨wx, ewx⟩ : ∃ wx, wx = wr.drewN nq := ⟨_, rfl⟩
        rw [← ewx]
        have HP : Hid (PmI w (w5.alloc (.cells #[.slice va p' vc, .int .i64 0, .bool false] 36)) w2.heap.size w5.heap.size (w.heap.size + 1) Q2 K (.slice (some ⟨b, off, none⟩) n cap) va p' vc ys wx p' f false L (.slice sa sn sc)) := by rw [ewx]; exact HIX.out.1 nq
        have hszx := HP.out.sz
        have hsz6 : w5.heap.size < (w5.alloc (.cells #[.slice va p' vc, .int .i64 0, .bool false] 36)).heap.size := by simp
        clear ewx nq
        have tR : wx.heap[w.heap.size]? = some zfO := HP.out.kr
        have tB : Below w.heap.size w wx := HP.out.bw
        have tg : srB wx (w.heap.size + 1) (.slice (some ⟨b, off, none⟩) n cap) ((Q2 + p' : Nat) : Int) false := HP.out.rg
        have tG : srB wx w5.heap.size (.slice va p' vc) (p' : Int) false := HP.out.rG
        have tF : fB wx w2.heap.size K 0 (.slice none 0 0) (.slice sa sn sc) := HP.out.fr
        have l0 := tG.c0
        have l1 := tG.c1
        have l2 := tG.c2
        have m0 := tF.c0
        have m1 := tF.c1
        have m2 := tF.c2
        have m3 := tF.c3
        have hmm : ((p' : Int) != (p' : Int)) = false := by simp
        have HO := hokS K 0 none 0 0 (.slice sa sn sc) L wx.drew (HP.out.ow).row (by have := HLN.out; omega) (by have := HLN.out; omega)
        obtain ⟨ok, eok⟩ : ∃ ok, ok = decide (hyP K 0 0 L) := ⟨_, rfl⟩
        rw [← eok] at HO
        have KK : Hid (∀ u, Below wx.drew.heap.size wx.drew u → u.heap[w.heap.size]? = some zfO ∧ Below w.heap.size w u ∧ srB u (w.heap.size + 1) (.slice (some ⟨b, off, none⟩) n cap) ((Q2 + p' : Nat) : Int) false ∧ fB u w2.heap.size K 0 (.slice none 0 0) (.slice sa sn sc)) := fun u hu =>
          ⟨(hu.block w.heap.size (Array.getElem?_eq_some_iff.1 tR).1).trans tR, tB.trans (((below_drewN (Below.refl _ _) 1).trans hu).mono tB.size), (hu.block _ tg.lt).trans tg, (hu.block _ tF.lt).trans tF⟩
        have KG : Hid (∀ u, Below wx.drew.heap.size wx.drew u → u.cell? ⟨w5.heap.size, 0, none⟩ = some (.slice va p' vc) ∧ u.cell? ⟨w5.heap.size, 1, none⟩ = some (.int .i64 (p' : Int)) ∧ u.cell? ⟨w5.heap.size, 2, none⟩ = some (.bool false)) := fun u hu => by
          have q : srB u w5.heap.size (.slice va p' vc) (p' : Int) false := (hu.block _ tG.lt).trans tG
          exact ⟨q.c0, q.c1, q.c2⟩
        have HT : Hid _ := And.intro HO eok
        clear tR tB tg tG tF HO eok
        cases ok with
        | false =>
          have HRes : Hid _ := And.intro ((fun e => res_bad (f := ⟨4, 0, [], L⟩) HR4.out.1 (by show ¬ hyP 4 0 0 L; rw [← HK.out.1]; exact of_decide_eq_false e.symm)) HT.out.2) True.intro
          go_wp2_with fail
          go_region_held3 (fun w' => w'.cell? ⟨w5.heap.size, 0, none⟩ = some (.slice va p' vc) ∧ w'.cell? ⟨w5.heap.size, 1, none⟩ = some (.int .i64 (p' : Int)) ∧ w'.cell? ⟨w5.heap.size, 2, none⟩ = some (.bool false) ∧ w'.cell? ⟨w2.heap.size, 0, none⟩ = some (.int .i64 K) ∧ w'.cell? ⟨w2.heap.size, 1, none⟩ = some (.int .i64 0) ∧ w'.cell? ⟨w2.heap.size, 2, none⟩ = some (.slice none 0 0) ∧ w'.cell? ⟨w2.heap.size, 3, none⟩ = some (.slice sa sn sc)) (go_keep)
            (first | (go_at_call 15; refine HT.out.1.mono ?_; rintro e wy ⟨rfl, by'⟩; obtain ⟨t0, t1, t2⟩ := KG.out wy by'; obtain ⟨u1, u2, u3, u4⟩ := KK.out wy by'; have v0 := u4.c0; have v1 := u4.c1; have v2 := u4.c2; have v3 := u4.c3; have HX : Hid _ := And.intro u1 (And.intro u2 (And.intro by' (And.intro u3 u4))); clear by' u1 u2 u3 u4))
          all_goals
            obtain ⟨z0, z1, z2, z3, y0, y1, y2, y3⟩ := z4 (HX.out.1)
            have HZ : Hid _ := And.intro (HX.out.2.1) (HX.out.1)
            go_wp2_with fail
            refine bodyPost_ret (v := .tuple #[.agg #[.int .i64 0, .int .i64 0, .slice none 0 0, .slice none 0 0], .int .i64 0, .int .i64 3]) ?_ rfl ?_
            · refine results_row_tmp2R (t := 25) rfl _ _ w.heap.size _ (fr := (0, 0)) _ _ _ rfl rfl rfl ?_ Tryd.underlying25 rfl infoHF
              exact st4_heap (w := wy) HZ.out.2
            · rw [HRes.out.1]
              exact ⟨⟨.slice none 0 0, .slice none 0 0, rfl, World.ownsRow_nil _ _ _ _, GOwns.nil _ _ _ _, fun j h => by cases h⟩, ((((HZ.out.1).setCell (by simp) _).setCell (by simp) _).setCell (by simp) _).setCell (by simp) _⟩
        | true =>
          have HRes : Hid _ := And.intro ((fun e => res_good4 HK.out.1 HR4.out.1 (by rw [← HK.out.1]; exact of_decide_eq_true e.symm)) HT.out.2) True.intro
          go_wp2_with fail
          go_region_held3 (fun w' => w'.cell? ⟨w5.heap.size, 0, none⟩ = some (.slice va p' vc) ∧ w'.cell? ⟨w5.heap.size, 1, none⟩ = some (.int .i64 (p' : Int)) ∧ w'.cell? ⟨w5.heap.size, 2, none⟩ = some (.bool false) ∧ w'.cell? ⟨w2.heap.size, 0, none⟩ = some (.int .i64 K) ∧ w'.cell? ⟨w2.heap.size, 1, none⟩ = some (.int .i64 0) ∧ w'.cell? ⟨w2.heap.size, 2, none⟩ = some (.slice none 0 0) ∧ w'.cell? ⟨w2.heap.size, 3, none⟩ = some (.slice sa sn sc)) (go_keep)
            (first | (go_at_call 15; refine HT.out.1.mono ?_; rintro e wy ⟨rfl, by'⟩; obtain ⟨t0, t1, t2⟩ := KG.out wy by'; obtain ⟨u1, u2, u3, u4⟩ := KK.out wy by'; have v0 := u4.c0; have v1 := u4.c1; have v2 := u4.c2; have v3 := u4.c3; have HX : Hid _ := And.intro u1 (And.intro u2 (And.intro by' (And.intro u3 u4))); clear by' u1 u2 u3 u4))
          all_goals
            obtain ⟨z0, z1, z2, z3, y0, y1, y2, y3⟩ := z4 HX.out.1
            have q1 := HX.out.2.2.2.1.c1
            have n0 := HX.out.2.2.2.2.c0
            have n1 := HX.out.2.2.2.2.c1
            have n2 := HX.out.2.2.2.2.c2
            have n3 := HX.out.2.2.2.2.c3
            go_wp2_with fail
            go_region
            all_goals
              go_wp2_with fail
              refine bodyPost_ret (v := .tuple #[.agg #[.int .i64 K, .int .i64 0, .slice none 0 0, (.slice sa sn sc)], .int .i64 ((Q2 + p' : Nat) : Int), .int .i64 0]) ?_ rfl ?_
              · refine results_row_tmp2R (t := 25) rfl _ _ w.heap.size _ (fr := (0, 0)) _ _ _ rfl rfl rfl ?_ Tryd.underlying25 rfl infoHF
                exact st4_heap (w := wy.drew) HX.out.1
              · rw [HRes.out.1]
                have bxy : Below wx.heap.size wx wy.drew := below_drewN ((below_drewN (Below.refl wx.heap.size wx) 1).trans HX.out.2.2.1) 1
                refine ⟨⟨_, _, rfl, ?_, ?_, fun j h => by cases h⟩, (((Below.setCell (below_drewN HX.out.2.1 1) (by simp) _).setCell (by simp) _).setCell (by simp) _).setCell (by simp) _⟩
                · have oD := owns_below (show wx.ownsRow (w5.alloc (.cells #[.slice va p' vc, .int .i64 0, .bool false] 36)).heap.size 5 1 (.slice none 0 0) 0 (([] : List Int).map (Value.int .u8)) from World.ownsRow_nil _ _ _ _) bxy
                  exact owns_mono (own_setH (own_setH (own_setH (own_setH oD (by omega)) (by omega)) (by omega)) (by omega)) (by omega)
                · have oS := (HP.out.ow).below bxy
                  exact (gown_setH (gown_setH (gown_setH (gown_setH oS (by omega)) (by omega)) (by omega)) (by omega)).mono (by omega)
end Go.Proofs.YtohooehbjbhhhaaDoor

namespace Go.Proofs.YtohooehbjbhhhaaDoor
open Go.RowKit
set_option linter.unusedVariables false

theorem rhR_V (xs : List Int) (p : Nat) (h1 : xs.length ≤ 65536) (h2 : p ≤ xs.length) : rhR xs (p : Int) = rhV (rhT xs p) := by
  unfold rhR rhV
  rw [if_neg (by omega), if_neg (by omega), Int.toNat_natCast]
  rfl
/-- The model's ReadHyper. -/
theorem specRh (v : Value) (xs : List Int) (at' : Int) (w : World) (hrow : Row w .u8 v xs) (hB : Bytes xs) (hn : xs.length ≤ 9223372036854775807) :
    Calls Tryd.prog 4 #[v, .int .i64 at'] w fun e w' => RhA' w.heap.size e w' (rhR xs at') ∧ Below w.heap.size w w' := by
  obtain ⟨ao, cap, rfl, hlie⟩ := row_liesR hrow
  by_cases h1 : 65536 < xs.length
  · rw [show rhR xs at' = (zHF, 0, 4) by unfold rhR; rw [if_pos h1]]
    exact rhS_long ao _ cap at' w hn h1
  by_cases h2 : at' < 0 ∨ (xs.length : Int) < at'
  · rw [show rhR xs at' = (zHF, 0, 1) by unfold rhR; rw [if_neg h1, if_pos h2]]
    exact rhS_place ao _ cap at' w hn (by omega) h2
  obtain ⟨p, rfl⟩ := Int.eq_ofNat_of_zero_le (show 0 ≤ at' by omega)
  have hp : p ≤ xs.length := by omega
  rw [rhR_V xs p (by omega) hp]
  by_cases hv : varOK xs p
  case neg =>
    rw [show rhT xs p = .error 2 by unfold rhT; rw [if_pos hv]]
    exact rhS_no1 ao _ cap p xs w hlie rfl hB (by omega) hp hv
  case pos =>
  rcases hlie with rfl | ⟨b, off, rfl, hl⟩
  · exact absurd hv.1 (by simp)
  by_cases hv2 : varOK xs (varN xs p)
  case neg =>
    rw [rhT_2 xs p hv hv2]
    exact rhS_no2 b off _ cap p xs w hl hB (by omega) hp hv hv2
  case pos =>
  have hvb := varV_bd xs (varN xs p)
  have hb2 := varN_bd xs _ hv2
  obtain ⟨m, em⟩ : ∃ m : Nat, varV xs (varN xs p) = (m : Int) := ⟨(varV xs (varN xs p)).toNat, by omega⟩
  obtain ⟨Q2, eQ2⟩ : ∃ Q2, varN xs (varN xs p) = Q2 := ⟨_, rfl⟩
  by_cases hbig : 16384 < m
  · rw [rhT_3 xs p hv hv2 (by rw [em]; omega)]
    exact rhS_big b off _ cap p xs w hl hB (by omega) hp hv hv2 m Q2 em eQ2 hbig
  by_cases hsh : xs.length < Q2 + m
  · rw [rhT_4 xs p hv hv2 (by rw [em]; omega) (by rw [em, eQ2]; omega)]
    exact rhS_short b off _ cap p xs w hl hB (by omega) hp hv hv2 m Q2 em eQ2 hbig (by omega) hsh
  by_cases h4 : varV xs p = 4
  · exact rhS_4 b off _ cap p xs w hl hB (by omega) hp hv hv2 m Q2 em eQ2 hbig (by omega) h4
  by_cases h7 : varV xs p = 7
  · by_cases hy : varOK (sub xs Q2 m) 0
    · by_cases hN : varN (sub xs Q2 m) 0 = m
      · exact rhS_7 b off _ cap p xs w hl hB (by omega) hp hv hv2 m Q2 em eQ2 hbig (by omega) h7 hy hN
      · exact rhS_7b b off _ cap p xs w hl hB (by omega) hp hv hv2 m Q2 em eQ2 hbig (by omega) h7 hy hN
    · exact rhS_7n b off _ cap p xs w hl hB (by omega) hp hv hv2 m Q2 em eQ2 hbig (by omega) h7 hy
  by_cases h15 : varV xs p = 15
  · by_cases hy : varOK (sub xs Q2 m) 0
    · exact rhS_15 b off _ cap p xs w hl hB (by omega) hp hv hv2 m Q2 em eQ2 hbig (by omega) h15 hy
    · exact rhS_15n b off _ cap p xs w hl hB (by omega) hp hv hv2 m Q2 em eQ2 hbig (by omega) h15 hy
  exact rhS_c b off _ cap p xs w hl hB (by omega) hp hv hv2 m Q2 em eQ2 hbig (by omega) h4 (fun h => h.elim h7 h15)
end Go.Proofs.YtohooehbjbhhhaaDoor

namespace Go.Proofs.YtohooehbjbhhhaaDoor
open Go.RowKit
set_option linter.unusedVariables false

/-- A frame's box. -/
abbrev hB (w : World) (g : Nat) (f : HF) (d s : Value) : Prop := w.heap[g]? = some (.cells #[.int .i64 f.k, .int .i64 f.a, d, s] 25 (0, 0))
theorem hB_cells {w : World} {g : Nat} {k a : Int} {d s : Value} (h : w.heap[g]? = some (.cells #[.int .i64 k, .int .i64 a, d, s] 25 (0, 0))) : w.cell? ⟨g, 0, none⟩ = some (.int .i64 k) ∧ w.cell? ⟨g, 1, none⟩ = some (.int .i64 a) ∧ w.cell? ⟨g, 2, none⟩ = some d ∧ w.cell? ⟨g, 3, none⟩ = some s :=
  ⟨(bk_cell h 0).trans rfl, (bk_cell h 1).trans rfl, (bk_cell h 2).trans rfl, (bk_cell h 3).trans rfl⟩
theorem hB_lt {w : World} {g : Nat} {o : Obj} (h : w.heap[g]? = some o) : g < w.heap.size := (Array.getElem?_eq_some_iff.1 h).1
theorem GOwns.chgO {S : Nat → Prop} {T : TypeId} {K : Nat} {w w' : World} {base : Nat} {v : Value} {L : List (List Value)} (h : GOwns T K w base v L) (hc : Chg S w w') (hs : ∀ k, v.ownBlock = some k → ¬ S k) : GOwns T K w' base v L := by
  obtain ⟨zs, ho, hz⟩ := h
  refine ⟨zs, ⟨ho.1, ?_⟩, hz⟩
  rcases ho.2 with hn | ⟨g, cap, cur, rfl, hb, hg, hr⟩
  · exact Or.inl hn
  · exact Or.inr ⟨g, cap, cur, rfl, hb, (hc.block g (Array.getElem?_eq_some_iff.1 hg).1 (hs g rfl)).trans hg, hr⟩
/-- What the law holds: the model's answer, the program's. -/
structure LH (w u : World) (bS c4 bG : Nat) (f : HF) (dS sS dG sG : Value) : Prop where
  kS : hB u bS f dS sS
  kG : hB u bG f dG sG
  od : u.ownsRow w.heap.size 5 1 dS f.d.length (f.d.map (Value.int .u8))
  os : GOwns 40 2 u w.heap.size sS (SSetting.L f.s)
  iS : ∀ k, dsB dS sS k → k < bS
  iG : ∀ k, dsB dG sG k → c4 ≤ k ∧ k < bG
  lt : w.heap.size ≤ bS ∧ bS < c4 ∧ c4 ≤ bG
  bw : Below w.heap.size w u
section
variable {w u u' : World} {bS c4 bG : Nat} {f : HF} {dS sS dG sG : Value}
theorem LH.next (h : LH w u bS c4 bG f dS sS dG sG) (hb : Below u.heap.size u u') : LH w u' bS c4 bG f dS sS dG sG :=
  ⟨(hb.block _ (hB_lt h.kS)).trans h.kS, (hb.block _ (hB_lt h.kG)).trans h.kG, owns_below h.od hb, h.os.below hb, h.iS, h.iG, h.lt, h.bw.trans (hb.mono h.bw.size)⟩
/-- Blocks above the model's box, but the program's box, may turn. -/
theorem LH.turn {S : Nat → Prop} (h : LH w u bS c4 bG f dS sS dG sG) (hc : Chg S u u') (hS : ∀ k, S k → bS < k ∧ k ≠ bG) : LH w u' bS c4 bG f dS sS dG sG := by
  have hl := h.lt
  exact ⟨(hc.block _ (hB_lt h.kS) (fun e => by have := (hS _ e).1; omega)).trans h.kS, (hc.block _ (hB_lt h.kG) (fun e => (hS _ e).2 rfl)).trans h.kG, hc.owns h.od (fun k hk e => by have := (hS _ e).1; have := h.iS k (Or.inl hk); omega), h.os.chgO hc (fun k hk e => by have := (hS _ e).1; have := h.iS k (Or.inr hk); omega), h.iS, h.iG, h.lt, h.bw.trans (hc.below h.bw.size (fun k hk => by have := (hS _ hk).1; omega))⟩
end
theorem rh_huge (ao : Option Addr) (n cap : Nat) (a : Int) (w : World) (h : 1048576 < n) (hm : n ≤ 9223372036854775807) :
    Calls Tryd.prog 3 #[.slice ao n cap, .int .i64 a] w fun e w' => e = .returned (.bool true) ∧ Below w.heap.size w w' := by
  go_enter Tryd.func3, Tryd.ntmps3
  go_wp2
  go_ret
  exact ⟨rfl, Below.refl _ _⟩
theorem only_chg {S : Nat → Prop} {o : Option Nat} {w w' : World} (h : Only o w w') (hs : ∀ k, o = some k → S k) : Chg S w w' := Chg.of_only h hs
set_option maxRecDepth 20000 in
set_option maxHeartbeats 8000000 in
theorem rh_law (v : Value) (xs : List Int) (a : Int) (w : World) (ht : Tab w) (he : errT w) (hrow : Row w .u8 v xs) (hB' : Bytes xs) (hn : xs.length ≤ 1048576) :
    Calls Tryd.prog 3 #[v, .int .i64 a] w fun e w' => e = .returned (.bool true) ∧ Below w.heap.size w w' := by
  have t1 := ht.lt
  have t2 := he.lt
  have DT : ∀ u, Below w.heap.size w u → Calls Tryd.prog 5 #[v] u fun e w' => ∃ r, e = .returned r ∧ w'.ownsRow u.heap.size 5 1 r xs.length (xs.map (Value.int .u8)) ∧ Below u.heap.size u w' := fun u hb => toBytes v xs u (hrow.below hb) (by omega)
  have DS : ∀ (u : World) (r : Value), Row u .u8 r xs → _ := fun u r h => specRh r xs a u h hB' (by omega)
  have DI : ∀ (u : World) (r : Value), Below w.heap.size w u → Row u .u8 r xs → _ := fun u r hb h => implRh r xs a u (ht.below hb t1) (he.below hb t2) h hB' (by omega)
  have DL : ∀ (u : World) (r r' : Value), Row u .u8 r xs → Row u .u8 r' xs → _ := fun u r r' h1 h2 => eqBytes_same r r' xs u h1 h2 (by omega)
  have DM : ∀ (u : World) (r : Value) (b : Nat), u.ownsRow b 5 1 r xs.length (xs.map (Value.int .u8)) → _ := fun u r b o => markBytes 1 xs.length b r xs u (by omega) (by decide) (by decide) o
  have hX := rhR_small xs a
  obtain ⟨R, eR⟩ : ∃ R, R = rhR xs a := ⟨_, rfl⟩
  rw [← eR] at DS DI hX
  clear eR
  obtain ⟨f, q, code⟩ := R
  simp only at hX
  obtain ⟨hx1, hx2⟩ := hX
  have DE : ∀ (u : World) (d s d' s' : Value), Row u .u8 d f.d → GRow 2 u s (SSetting.L f.s) → Row u .u8 d' f.d → GRow 2 u s' (SSetting.L f.s) → _ := fun u d s d' s' h1 h2 h3 h4 => eqHF f d s d' s' u h1 h2 h3 h4 (by omega) (by omega)
  have DK : ∀ (u : World) (d s : Value) (B : Nat), u.ownsRow B 5 1 d f.d.length (f.d.map (Value.int .u8)) → GOwns 40 2 u B s (SSetting.L f.s) → (∀ k, d.ownBlock = some k → s.ownBlock ≠ some k) → _ := fun u d s B h1 h2 h3 => markHFp f d s B u h1 h2 h3 (by omega) (by omega)
  have DH : ∀ (u : World) (d s : Value), Row u .u8 d (marks 1 f.d.length) → GRow 2 u s (marksSetting (1 + (f.d.length : Int)) f.s.length) → _ := fun u d s h1 h2 => heldHFp f d s u h1 h2 (by omega) (by omega)
  obtain ⟨ao, cp, rfl⟩ := hrow.form
  obtain ⟨n, en⟩ : ∃ n, n = xs.length := ⟨_, rfl⟩
  obtain ⟨nd, end'⟩ : ∃ nd, nd = f.d.length := ⟨_, rfl⟩
  obtain ⟨ns, ens⟩ : ∃ ns, ns = f.s.length := ⟨_, rfl⟩
  have FF : Hid (∀ (u : World) (r : Value) (b : Nat), u.ownsRow b 5 1 r xs.length (xs.map (Value.int .u8)) → ∃ ao cp, r = .slice ao n cp) := fun u r b h => by rw [en]; exact (row_of_owns h).form
  have FD : Hid (∀ (u : World) (r : Value) (b : Nat), u.ownsRow b 5 1 r f.d.length (f.d.map (Value.int .u8)) → ∃ ao cp, r = .slice ao nd cp) := fun u r b h => by rw [end']; exact (row_of_owns h).form
  have FS : Hid (∀ (u : World) (r : Value) (b : Nat), GOwns 40 2 u b r (SSetting.L f.s) → ∃ ao cp, r = .slice ao ns cp) := fun u r b h => by rw [ens]; exact srow_form h.row
  obtain ⟨M, eM⟩ : ∃ M : Int, M = 1 + (f.d.length : Int) + 2 * (f.s.length : Int) := ⟨_, rfl⟩
  have pM : 0 ≤ M := by omega
  have qM : (M != M) = false := by simp
  rw [← eM] at DK DH
  obtain ⟨k4, e4⟩ : ∃ k4 : Int, k4 = 1 + (n : Int) := ⟨_, rfl⟩
  have p4 : 0 ≤ k4 := by omega
  have hq : (q != q) = false := by simp
  have hc : (code != code) = false := by simp
  have HR : Hid _ := And.intro DT (And.intro DS (And.intro DI (And.intro DL DM)))
  have HE : Hid _ := And.intro DE (And.intro DK DH)
  have hn' : n ≤ 1048576 := by omega
  rw [show (xs.length : Int) = (n : Int) by omega] at HR
  rw [← e4] at HR
  rw [← en] at HR ⊢
  rw [← en] at FF
  clear DT DS DI DL DM DE DK DH hrow hB' ht he en end' ens eM e4 hx1 hx2 t1 t2 hn
  unfold RhA' at HR
  simp only at HR
  unfold hV at *
  go_enter Tryd.func3, Tryd.ntmps3
  go_wp2_with fail
  go_at_call 5
  refine (HR.out.1 w (Below.refl _ _)).mono ?_
  rintro e w1 ⟨r1, rfl, o1, b1⟩
  obtain ⟨a1, c1, er1⟩ := FF.out _ _ _ o1
  subst er1
  have H1 : Hid _ := And.intro b1 (row_of_owns o1)
  clear b1 o1
  go_wp2_with fail
  go_at_call 4
  refine (HR.out.2.1 w1 _ H1.out.2).mono ?_
  rintro e w2 ⟨⟨dS, sS, rfl, oS, gS, apS⟩, b2⟩
  obtain ⟨da, dc, ed⟩ := FD.out _ _ _ oS
  obtain ⟨sa, sc, es⟩ := FS.out _ _ _ gS
  subst ed
  subst es
  have a2 := (Below.refl w2.heap.size w2).alloc (Nat.le_refl _) (.cells #[.int .i64 f.k, .int .i64 f.a, .slice da nd dc, .slice sa ns sc] 25)
  have B2 := H1.out.1.trans (b2.mono H1.out.1.size)
  have iS : ∀ k, dsB (.slice da nd dc) (.slice sa ns sc) k → k < w2.heap.size := fun k hk => by
    rcases hk with hk | hk
    · exact (oS.lt k hk).2
    · obtain ⟨zs, ho, _⟩ := gS; exact (ho.lt k hk).2
  have K2 := heap_alloc_new w2 (.cells #[.int .i64 f.k, .int .i64 f.a, .slice da nd dc, .slice sa ns sc] 25)
  have H2 : Hid _ := And.intro (B2.trans (a2.mono B2.size)) (And.intro K2 (And.intro (owns_below (owns_mono oS H1.out.1.size) a2) (And.intro ((gS.mono H1.out.1.size).below a2) (And.intro iS B2.size))))
  clear a2 B2 iS K2 oS gS apS b2
  go_wp2_with fail
  go_at_call 5
  refine (HR.out.1 _ H2.out.1).mono ?_
  rintro e w3 ⟨x3, rfl, o3, b3⟩
  obtain ⟨xa, xc, ex⟩ := FF.out _ _ _ o3
  subst ex
  have B3 := H2.out.1.trans (b3.mono H2.out.1.size)
  have z3 : w2.heap.size < w3.heap.size := by have := b3.size; simp at this; omega
  have o3' := owns_mono (base' := w2.heap.size + 1) o3 (by simp)
  have i3 : ∀ k, (Value.slice xa n xc).ownBlock = some k → w2.heap.size < k ∧ k < w3.heap.size := fun k hk => by have := o3'.lt k hk; omega
  have H3 : Hid _ := And.intro B3 (And.intro ((b3.block _ (by simp)).trans H2.out.2.1) (And.intro (owns_below H2.out.2.2.1 b3) (And.intro (H2.out.2.2.2.1.below b3) (And.intro o3' (And.intro i3 z3)))))
  clear B3 z3 o3 o3' i3 b3
  go_wp2_with fail
  go_at_call 6
  refine (HR.out.2.2.1 w3 _ H3.out.1 (row_of_owns H3.out.2.2.2.2.1)).mono ?_
  rintro e w4 ⟨⟨dG, sG, rfl, oG, gG, apG⟩, b4⟩
  obtain ⟨ga, gc, eg⟩ := FD.out _ _ _ oG
  obtain ⟨ta, tc, et⟩ := FS.out _ _ _ gG
  subst eg
  subst et
  have a4 := (Below.refl w4.heap.size w4).alloc (Nat.le_refl _) (.cells #[.int .i64 f.k, .int .i64 f.a, .slice ga nd gc, .slice ta ns tc] 25)
  have B4 := H3.out.1.trans (b4.mono H3.out.1.size)
  have bb := b4.trans (a4.mono b4.size)
  have L4 : LH w (w4.alloc (.cells #[.int .i64 f.k, .int .i64 f.a, .slice ga nd gc, .slice ta ns tc] 25)) w2.heap.size w3.heap.size w4.heap.size f (.slice da nd dc) (.slice sa ns sc) (.slice ga nd gc) (.slice ta ns tc) :=
    ⟨(bb.block _ H3.out.2.2.2.2.2.2).trans H3.out.2.1, heap_alloc_new w4 _, owns_below H3.out.2.2.1 bb, H3.out.2.2.2.1.below bb, H2.out.2.2.2.2.1, fun k hk => by
      rcases hk with hk | hk
      · exact oG.lt k hk
      · obtain ⟨zs, ho, _⟩ := gG; exact ho.lt k hk, ⟨H2.out.2.2.2.2.2, H3.out.2.2.2.2.2.2, b4.size⟩, B4.trans (a4.mono B4.size)⟩
  obtain ⟨d0, d1, d2, d3⟩ := hB_cells L4.kS
  have g4 := (b4.block _ H3.out.2.2.2.2.2.2).trans H3.out.2.1
  obtain ⟨g0, g1, g2, g3⟩ := hB_cells g4
  have z4 : w2.heap.size < w4.heap.size := by have := b4.size; have := H3.out.2.2.2.2.2.2; omega
  have H4 : Hid _ := And.intro L4 (And.intro (owns_below oG a4) (And.intro (gG.below a4) (And.intro apG (owns_below H3.out.2.2.2.2.1 bb))))
  clear L4 a4 B4 bb oG gG apG b4 g4
  go_wp2_with fail
  go_at_call 7
  refine (HE.out.1 _ _ _ _ _ (row_of_owns H4.out.2.1) H4.out.2.2.1.row (row_of_owns H4.out.1.od) H4.out.1.os.row).mono ?_
  rintro e w5 ⟨rfl, b5⟩
  have H5 : Hid _ := And.intro (H4.out.1.next b5) (And.intro (owns_below H4.out.2.1 b5) (And.intro (H4.out.2.2.1.below b5) (owns_below H4.out.2.2.2.2 b5)))
  clear b5 d0 d1 d2 d3 g0 g1 g2 g3
  go_wp2_with fail
  go_at_call 5
  refine (HR.out.1 _ H5.out.1.bw).mono ?_
  rintro e w6 ⟨r6, rfl, o6, b6⟩
  obtain ⟨ra, rc, er⟩ := FF.out _ _ _ o6
  subst er
  have H6 : Hid _ := And.intro (H5.out.1.next b6) (And.intro (owns_below H5.out.2.1 b6) (And.intro (H5.out.2.2.1.below b6) (And.intro (owns_below H5.out.2.2.2 b6) (row_of_owns o6))))
  clear b6 o6
  go_wp2_with fail
  go_at_call 8
  refine (HR.out.2.2.2.1 _ _ _ (row_of_owns H6.out.2.2.2.1) H6.out.2.2.2.2).mono ?_
  rintro e w7 ⟨rfl, nz, hw7⟩
  have b7 : Below w6.heap.size w6 w7 := by rw [hw7]; exact below_drewN (Below.refl _ _) nz
  have H7 : Hid _ := And.intro (H6.out.1.next b7) (And.intro (owns_below H6.out.2.1 b7) (And.intro (H6.out.2.2.1.below b7) (owns_below H6.out.2.2.2.1 b7)))
  clear b7 hw7
  go_wp2_with fail
  go_at_call 9
  refine (HR.out.2.2.2.2 _ _ _ H7.out.2.2.2).mono ?_
  rintro e w8 ⟨rfl, o8, b8, z8, n8⟩
  have iX := H3.out.2.2.2.2.2.1
  have C8 : Chg (fun k => (Value.slice xa n xc).ownBlock = some k) w7 w8 := Chg.of_only n8 (fun k e => e)
  have L8 := H7.out.1.turn C8 (fun k hk => by have := iX k hk; have := H7.out.1.lt; omega)
  have hnx : ∀ k, dsB (.slice ga nd gc) (.slice ta ns tc) k → ¬ (Value.slice xa n xc).ownBlock = some k := fun k hk e => by have := iX k e; have := H7.out.1.iG k hk; omega
  obtain ⟨d0, d1, d2, d3⟩ := hB_cells L8.kS
  obtain ⟨g0, g1, g2, g3⟩ := hB_cells L8.kG
  have H8 : Hid _ := And.intro L8 (And.intro (C8.owns H7.out.2.1 (fun k hk => hnx k (Or.inl hk))) (H7.out.2.2.1.chgO C8 (fun k hk => hnx k (Or.inr hk))))
  clear L8 C8 o8 b8 z8 n8 iX hnx
  go_wp2_with fail
  go_at_call 7
  refine (HE.out.1 _ _ _ _ _ (row_of_owns H8.out.2.1) H8.out.2.2.row (row_of_owns H8.out.1.od) H8.out.1.os.row).mono ?_
  rintro e w9 ⟨rfl, b9⟩
  have L9 := H8.out.1.next b9
  clear d0 d1 d2 d3 g0 g1 g2 g3
  obtain ⟨g0, g1, g2, g3⟩ := hB_cells L9.kG
  have H9 : Hid _ := And.intro L9 (And.intro (owns_below H8.out.2.1 b9) (H8.out.2.2.below b9))
  clear L9 b9
  go_wp2_with fail
  go_at_call 10
  refine (HE.out.2.1 _ _ _ _ H9.out.2.1 H9.out.2.2 H4.out.2.2.2.1).mono ?_
  rintro e w10 ⟨rfl, rd10, rs10, c10⟩
  have L10 := H9.out.1.turn c10 (fun k hk => by have := H9.out.1.iG k hk; have := H9.out.1.lt; omega)
  clear g0 g1 g2 g3
  obtain ⟨g0, g1, g2, g3⟩ := hB_cells L10.kG
  have H10 : Hid _ := And.intro L10 (And.intro rd10 rs10)
  clear L10 rd10 rs10 c10
  go_wp2_with fail
  go_at_call 11
  refine (HE.out.2.2 _ _ _ H10.out.2.1 H10.out.2.2).mono ?_
  rintro e w11 ⟨rfl, b11⟩
  have H11 : Hid _ := And.intro (H10.out.1.next b11) (And.intro (H10.out.2.1.below b11) (H10.out.2.2.below b11))
  clear b11 g0 g1 g2 g3
  go_wp2_with fail
  go_at_call 5
  refine (HR.out.1 _ H11.out.1.bw).mono ?_
  rintro e w12 ⟨r12, rfl, o12, b12⟩
  obtain ⟨ya, yc, ey⟩ := FF.out _ _ _ o12
  subst ey
  have H12 : Hid _ := And.intro (H11.out.1.next b12) (And.intro (H11.out.2.1.below b12) (And.intro (H11.out.2.2.below b12) (row_of_owns o12)))
  clear b12 o12
  go_wp2_with fail
  go_at_call 6
  refine (HR.out.2.2.1 _ _ H12.out.1.bw H12.out.2.2.2).mono ?_
  rintro e w13 ⟨⟨dH, sH, rfl, oH, gH, apH⟩, b13⟩
  obtain ⟨ha, hc', eh⟩ := FD.out _ _ _ oH
  obtain ⟨ia, ic, ei⟩ := FS.out _ _ _ gH
  subst eh
  subst ei
  have a13 := (Below.refl w13.heap.size w13).alloc (Nat.le_refl _) (.cells #[.int .i64 f.k, .int .i64 f.a, .slice ha nd hc', .slice ia ns ic] 25)
  have L13 := H12.out.1.next b13
  obtain ⟨d0, d1, d2, d3⟩ := hB_cells L13.kS
  have z6 := hB_lt L13.kS
  have z7 := hB_lt L13.kG
  have bb := b13.trans (a13.mono b13.size)
  have H13 : Hid _ := And.intro (L13.next a13) (And.intro (H12.out.2.1.below bb) (And.intro (H12.out.2.2.1.below bb) (And.intro (row_of_owns (owns_below oH a13)) (gH.below a13).row)))
  clear L13 a13 bb b13 oH gH apH
  go_wp2_with fail
  go_at_call 7
  refine (HE.out.1 _ _ _ _ _ H13.out.2.2.2.1 H13.out.2.2.2.2 (row_of_owns H13.out.1.od) H13.out.1.os.row).mono ?_
  rintro e w14 ⟨rfl, b14⟩
  have L14 := H13.out.1.next b14
  clear d0 d1 d2 d3
  obtain ⟨g0, g1, g2, g3⟩ := hB_cells L14.kG
  have H14 : Hid _ := And.intro L14 (And.intro (H13.out.2.1.below b14) (H13.out.2.2.1.below b14))
  clear L14 b14
  go_wp2_with fail
  go_at_call 11
  refine (HE.out.2.2 _ _ _ H14.out.2.1 H14.out.2.2).mono ?_
  rintro e w15 ⟨rfl, b15⟩
  have H15 : Hid _ := (H14.out.1.next b15).bw
  clear b15 g0 g1 g2 g3
  go_wp2
  go_ret
  exact ⟨rfl, H15.out⟩
theorem fnExactReadHyper_walk (v : Value) (xs : List Int) (a : Int) (hl : xs.length ≤ maxLen) (hwf : ∀ x ∈ xs, (Lit.int .u8 x).wf = true) (w : World) (hrow : Row w .u8 v xs) (ht : Tab w) (he : errT w) :
    Calls Tryd.prog 3 #[v, .int .i64 a] w fun e w' => e = .returned (.bool true) ∧ Below w.heap.size w w' := by
  have hm : xs.length ≤ 9223372036854775807 := by unfold maxLen at hl; omega
  by_cases h20 : 1048576 < xs.length
  · obtain ⟨ao, cap, rfl⟩ := hrow.form
    exact rh_huge ao _ cap a w h20 hm
  · exact rh_law v xs a w ht he hrow (bytes_of_wf hwf) (by omega)
end Go.Proofs.YtohooehbjbhhhaaDoor

namespace Go.Proofs.YtohooehbjbhhhaaDoor.fnExactReadHyper
open Go.ChangeShapes Go.WideShapes Go.ChangeAt Go.RowKit
set_option linter.unusedVariables false

theorem own : ownKnob Tryd.prog.godebug = none := by kernel_rfl
theorem laidOut : laidOutB Tryd.prog = true := by kernel_rfl
theorem cells_b : Tryd.prog.cellsOf 5 = 1 := by kernel_rfl
theorem gTab : Tryd.prog.globalNamed "loop.example/g00012/impl.varFormLengths" = some 1 := by kernel_rfl
theorem gTabType : (Tryd.prog.globals[1]?).map (·.type) = some 90 := by kernel_rfl
theorem cellsArr : Tryd.prog.cellsOf 90 = 4 := by kernel_rfl
theorem cellsInt : Tryd.prog.cellsOf 3 = 1 := by kernel_rfl
theorem et : Tryd.prog.globalNamed "errors.errorType" = some 0 := by kernel_rfl
theorem rt : (Tryd.prog.cutTypes.find? (·.1 == "internal/reflectlite.rtype")).map (·.2) = some 93 := by kernel_rfl
theorem oneRow : ((List.range (Tryd.prog.types.size)).filter fun t => Tryd.prog.rowNamed t [101, 114, 114, 111, 114]) = [44] := by kernel_rfl
theorem laidMet_tail {P : Program} {W : World} {x : String × DataW Unit} {l : List (String × DataW Unit)} (h : laidMet P (x :: l) W) : laidMet P l W := by
  obtain ⟨n, d⟩ := x
  obtain ⟨ps, ⟨g', t', cs, fuel, p, q, hg', ht', hvar, hd, hr, hps⟩, hnd, hall⟩ := h
  subst hps
  exact ⟨q, hr, (List.nodup_append.1 hnd).2.1, fun b off hm => hall b off (List.mem_append_right _ hm)⟩
theorem table {W : World} (h : laidMetH Tryd.prog Rows.fnExactReadHyperRow.laid W) : Tab W ∧ errT W := by
  have h' : laidMet Tryd.prog [("loop.example/g00012/impl.varFormLengths", Lib.tabData .i64 [1, 2, 4, 8])] W ∧ handlesMet Tryd.prog [("errors.errorType", Rows.laid_errors_errorType)] W := h
  have t : Lib.TabIs Tryd.prog W "loop.example/g00012/impl.varFormLengths" .i64 [1, 2, 4, 8] :=
    Lib.tabIs_of_head gTab gTabType Tryd.underlying90 Tryd.underlying3 cellsInt cellsArr h'.1
  refine ⟨⟨t.cell gTab 0 (by decide), t.cell gTab 1 (by decide), t.cell gTab 2 (by decide), t.cell gTab 3 (by decide)⟩, ?_⟩
  obtain ⟨name, u, ty, e1, e2, e3, e4, e5⟩ := h'.2 _ (List.mem_singleton.2 rfl)
  have en : name = [101, 114, 114, 111, 114] := (Option.some.inj e1).symm
  subst en
  obtain rfl := Option.some.inj (rt.symm.trans e2)
  have hm : ty ∈ (List.range (Tryd.prog.types.size)).filter fun t => Tryd.prog.rowNamed t [101, 114, 114, 111, 114] := List.mem_filter.2 ⟨List.mem_range.2 e3, e4⟩
  rw [oneRow] at hm
  obtain rfl := List.mem_singleton.1 hm
  have hh : typeHandle Tryd.prog 44 = .pointer (some ⟨2, 44, none⟩) := by kernel_rfl
  rw [hh] at e5
  unfold errT
  simpa using World.var?_cell et e5 0
set_option maxRecDepth 20000 in
theorem contract (H : Type) (enc : TypeId × Value → H) (W : World) (base : Nat) (args : Array Value) (ds gs : List (DataW H)) (before : List MemPlace)
    (hval : ∀ (j : Nat) t v, Tryd.f3.params[j]? = some t → args[j]? = some v → Value.okWide Tryd.prog W .any base t v)
    (hW : DataW.Whole enc Tryd.prog Tryd.f3.params.toList Rows.fnExactReadHyperSpec.vars false W args.toList ds gs before) (hL : laidMetH Tryd.prog Rows.fnExactReadHyperRow.laid W) :
    Calls Tryd.prog 3 args W fun e W' => ∃ v, e = .returned v ∧ Rows.fnExactReadHyperSpec.post enc Tryd.prog Tryd.f3 false true false false W args v W' := by
  have hW' := hW
  obtain ⟨p, q, hA0, hV, rfl, hfz, hnd⟩ := hW
  have hA : DataW.TrodAll enc Tryd.prog W 0 (fun _ => true) true Tryd.f3.params.toList args.toList ds p := hA0
  rw [Tryd.params3] at hA hval
  obtain ⟨v0, vs0, d0, ds0, p0, q0, hargs, rfl, rfl, h0, r0⟩ := trodAll_cons hA
  obtain ⟨v1, vs1, d1, ds1, p1, q1, rfl, rfl, rfl, h1, r1⟩ := trodAll_cons r0
  obtain ⟨rfl, rfl, rfl⟩ := trodAll_nil r1
  obtain rfl : args = #[v0, v1] := by cases args; simp_all
  obtain ⟨g, t, cs, fuel, dg, pg, rfl, -⟩ := trodVars_one hV
  obtain ⟨xs0, row0, len0, wf0⟩ := open_row Tryd.underlying22 Tryd.underlying5 cells_b (hval 0 22 v0 rfl rfl) h0
  obtain ⟨a1, rfl, rfl, rfl, w1⟩ := open_int Tryd.underlying3 (hval 1 3 v1 rfl rfl) h1
  refine (fnExactReadHyper_walk v0 xs0 a1 len0 wf0 W row0 (table hL).1 (table hL).2).mono fun e W' ⟨he, hb⟩ => ?_
  subst he
  exact ⟨_, rfl, law_post laidOut (by kernel_rfl) (by kernel_rfl) (by kernel_rfl) Tryd.underlying4 hW' rfl hb⟩

theorem laid_met (os : Os) : laidMetH Tryd.prog Rows.fnExactReadHyperRow.laid (({ (World.holding Tryd.prog os ⟨#[], #[], []⟩) with heap := ((World.holding Tryd.prog os ⟨#[], #[], []⟩).heap.modify 0 fun | .cells _ t frozen => .cells #[.iface 93 (.agg #[.pointer (some ⟨2, 44, none⟩)])] t frozen | o => o).modify 1 fun | .cells _ t frozen => .cells #[.int .i64 1, .int .i64 2, .int .i64 4, .int .i64 8] t frozen | o => o } : World).forCall (fun _ _ => 0) ⟨#[], #[.slice none 0 0, .int .i64 0], []⟩).memory :=
  laidMetH_of_parts (laidMet_of_run' 8 (by kernel_rfl) (by kernel_rfl)) (by kernel_rfl)
theorem reads (os : Os) {H : Type} (enc : TypeId × Value → H) : ∃ places, DataW.whole enc Tryd.prog (({ (World.holding Tryd.prog os ⟨#[], #[], []⟩) with heap := ((World.holding Tryd.prog os ⟨#[], #[], []⟩).heap.modify 0 fun | .cells _ t frozen => .cells #[.iface 93 (.agg #[.pointer (some ⟨2, 44, none⟩)])] t frozen | o => o).modify 1 fun | .cells _ t frozen => .cells #[.int .i64 1, .int .i64 2, .int .i64 4, .int .i64 8] t frozen | o => o } : World).forCall (fun _ _ => 0) ⟨#[], #[.slice none 0 0, .int .i64 0], []⟩).memory Tryd.f3.params.toList Rows.fnExactReadHyperSpec.vars false #[(.slice none 0 0 : Value), .int .i64 0].toList 8 = some ([.nil, .lit (.int .i64 0)], [.agg [.lit (.int .i64 1), .lit (.int .i64 2), .lit (.int .i64 4), .lit (.int .i64 8)]], places) :=
  ⟨[.cell 1 0, .cell 1 1, .cell 1 2, .cell 1 3], by kernel_rfl⟩

set_option maxRecDepth 100000 in
theorem lifted (os : Os) (started : os.Started) (H : Type) (enc : TypeId × Value → H) (F : Stop.Interp) :
    ReturnsInHanded {} Tryd.checked os 3 .any ((OpenSpec.ofChange Rows.fnExactReadHyperSpec).preRow enc Tryd.prog Tryd.f3 Rows.fnExactReadHyperRow.domain false Rows.fnExactReadHyperRow.laid) (((OpenSpec.ofChange Rows.fnExactReadHyperSpec).at F).post enc Tryd.prog Tryd.f3 false true false false) := by
  obtain ⟨places, hx⟩ := reads os enc
  refine returnsInHanded_of_row (C := Tryd.checked) (s := OpenSpec.ofChange Rows.fnExactReadHyperSpec) own started (by kernel_rfl) Tryd.func3
    (witness_row_at (enc := enc) (C := Tryd.checked) false ({ (World.holding Tryd.prog os ⟨#[], #[], []⟩) with heap := ((World.holding Tryd.prog os ⟨#[], #[], []⟩).heap.modify 0 fun | .cells _ t frozen => .cells #[.iface 93 (.agg #[.pointer (some ⟨2, 44, none⟩)])] t frozen | o => o).modify 1 fun | .cells _ t frozen => .cells #[.int .i64 1, .int .i64 2, .int .i64 4, .int .i64 8] t frozen | o => o } : World) #[.slice none 0 0, .int .i64 0] rfl (by kernel_rfl) (by kernel_rfl) (by kernel_rfl)
      (OpenSpec.preRow_of_cond 8 hx (by kernel_rfl) (fun k hk => by cases hk) (by kernel_rfl) (laid_met os))) ?_
  intro W base args ds gs before hval hW _ _ _ hL _ _
  exact contract H enc W base args ds gs before hval hW hL

theorem said : Rows.FnExactReadHyperSaid :=
  OpenClaim.holds_of_cond 3 Tryd.f3 rfl rfl rfl rfl rfl rfl rfl ⟨rfl, rfl, rfl, rfl, rfl⟩ rfl rfl rfl rfl rfl (by kernel_rfl) Tryd.func3 (by kernel_rfl)
    (of_decide_eq_true (by kernel_rfl)) (by unfold Func.isWrapper; first | (rw [if_pos (by decide +kernel)]; kernel_rfl) | (rw [if_neg (by decide +kernel)]; exact ⟨rfl, rfl⟩))
    (fun os started H enc _ F => by rw [OpenClaim.pre_eq_preRow]; exact lifted os started H enc F)

theorem plain (f : FuncId) (fn : Func) (hf : Tryd.pinned.checked.prog.funcNamed "loop.example/g00012/laws.FnExactReadHyper" = some f) (hfn : Tryd.pinned.checked.prog.funcs[f]? = some fn) :
    true = Tryd.pinned.checked.prog.looks [] ∧ ∀ (j : Nat) t, fn.params[j]? = some t → Tryd.pinned.checked.prog.wantsStandIn t = false := by
  obtain rfl : f = 3 := Option.some.inj ((show Tryd.prog.funcNamed "loop.example/g00012/laws.FnExactReadHyper" = some 3 by kernel_rfl).symm.trans hf) |>.symm
  obtain rfl : fn = Tryd.f3 := (Option.some.inj (Tryd.func3.symm.trans hfn)).symm
  refine ⟨by kernel_rfl, fun j t ht => ?_⟩
  rw [Tryd.params3] at ht
  have hm : t ∈ [22, 3] := by simpa using Array.mem_of_getElem? ht
  have hall : ([22, 3].all fun u => !Tryd.prog.wantsStandIn u) = true := by kernel_rfl
  exact (show Tryd.prog.wantsStandIn t = false by simpa using List.all_eq_true.1 hall t hm)

end Go.Proofs.YtohooehbjbhhhaaDoor.fnExactReadHyper

namespace Go.Proofs.YtohooehbjbhhhaaDoor
theorem fnExactReadHyper_holds : Rows.FnExactReadHyperCardSaid :=
  Claim7.holds_tied_plain_at .later [] _ _ _ _ fnExactReadHyper.said (fun _ h => by cases h) (by kernel_rfl) (fun _ h => by cases h) fnExactReadHyper_row_tie rfl ⟨rfl, rfl⟩ (by kernel_rfl) rfl fnExactReadHyper.plain (by kernel_rfl)
#print axioms fnExactReadHyper_holds
end Go.Proofs.YtohooehbjbhhhaaDoor
