import Derived.Test.YtdommkpeilmdnaaDoorRows
import Derived.WalkKit
import Derived.ProofKit
import Derived.OpenShut
import Derived.OpenVars
import Derived.Deep.DeepHandedRow
import Derived.Test.YtdommkpeilmdnaaDoorMem
import Derived.OrdersHeld
import Derived.RegionTactic
import Derived.Test.YtdommkpeilmdnaaDoorFhD
import Derived.Test.YtdommkpeilmdnaaDoorHyE
import Derived.Test.YtdommkpeilmdnaaDoorAppRow
import Derived.Test.YtdommkpeilmdnaaDoorHfP
import Derived.Lib.ConvBytes
import Derived.Deep.CutBlock
import Derived.Test.YtdommkpeilmdnaaDoorHfF
import Derived.Test.YtdommkpeilmdnaaDoorCards
import Derived.Test.YtdommkpeilmdnaaDoorTie
import Derived.Lib.LaidTab
import Derived.LaidHandle
namespace Go.Proofs.YtdommkpeilmdnaaDoor
open Go.ChangeShapes Go.WideShapes Go.ChangeAt Go.RowKit

/-- Each parameter's type can be read, and is a row of the table: one closed fact. -/
def typesRowed (P : Program) (ts : List TypeId) : Bool := ts.all fun t => P.readableRec t && decide (t < P.types.size)

theorem below_trodAll {H : Type} {enc : TypeId × Value → H} {P : Program} (hl : laidOutB P = true) {W W' : World} (hb : Below W.heap.size W W') :
    ∀ {ts : List TypeId} {vs : List Value} {ds : List (DataW H)} {ps : List MemPlace}, typesRowed P ts = true → DataW.TrodAll enc P W 0 (fun _ => true) true ts vs ds ps → (∀ x ∈ ps, x.block < W.heap.size) →
      DataW.TrodAll enc P W' 0 (fun b => decide (b < W.heap.size)) true ts vs ds ps
  | [], [], [], _, _, h, _ => h
  | [], _ :: _, _, _, _, h, _ => h.elim
  | [], [], _ :: _, _, _, h, _ => h.elim
  | _ :: _, [], _, _, _, h, _ => h.elim
  | _ :: _, _ :: _, [], _, _, h, _ => h.elim
  | t :: ts, v :: vs, d :: ds, ps, hr, h, hlt => by
    obtain ⟨p, q, h1, h2, rfl⟩ := h
    simp only [typesRowed, List.all_cons, Bool.and_eq_true, decide_eq_true_eq] at hr
    exact ⟨p, q, Below.trod hl hr.1.1 hr.1.2 h1 hb (fun x hx => hlt x (by simp [hx])), below_trodAll hl hb (by simpa [typesRowed] using hr.2) h2 (fun x hx => hlt x (by simp [hx])), rfl⟩

/-- WHAT A LAW's ROW ASKS, out of 'it returned true, and of what was there before nothing has turned'. -/
theorem law_post {H : Type} {enc : TypeId × Value → H} {P : Program} {f : Func} {s : ChangeSpec} {W W' : World} {args : Array Value} {ds gs : List (DataW H)} {before : List MemPlace} {tb : TypeId}
    (hl : laidOutB P = true) (hp : typesRowed P f.params.toList = true) (hv : varsRowed P s.vars = true) (hr : f.resultTypes = #[tb]) (hu : P.underlying tb = some .bool)
    (hW : DataW.Whole enc P f.params.toList s.vars false W args.toList ds gs before)
    (hs : s.fn H (ds ++ gs) = { results := [.lit (.bool true)], args := ds, vars := gs }) (hb : Below W.heap.size W W') :
    s.post enc P f false true false false W args (.bool true) W' := by
  have hW' := hW
  obtain ⟨p, q, hA, hV, rfl, hfz, hnd⟩ := hW
  have hlt : ∀ x ∈ p ++ q, x.block < W.heap.size := fun x hx => hW'.lt x hx
  refine ⟨ds, gs, p ++ q, [], p, q, hW', ?_, ?_, ?_, hb.frame _, fun h => by cases h⟩
  · rw [hs, hr]
    exact trodAll_mk1 (shut_bool hu _)
  · rw [hs]
    exact below_trodAll hl hb hp hA (fun x hx => hlt x (by simp [hx]))
  · rw [hs]
    exact Below.trodVars hl hb hv hV

theorem cell_ltL {w : World} {b o : Nat} {u : Value} (h : w.cell? ⟨b, o, none⟩ = some u) : b < w.heap.size := by
  refine Nat.lt_of_not_le (fun hn => ?_)
  have e : w.heap[b]? = none := Array.getElem?_eq_none (by omega)
  simp [World.cell?, e] at h

/-- AN ARGUMENT THAT IS A SLICE OF NUMBERS: it reads as some numbers of its kind. -/
theorem open_row {H : Type} {enc : TypeId × Value → H} {P : Program} {W : World} {r : Reach} {base : Nat} {t e : TypeId} {k : IntKind} {v : Value} {d : DataW H} {p : List MemPlace}
    (ht : P.underlying t = some (.slice e)) (he : P.underlying e = some (.int k)) (hc : P.cellsOf e = 1) (hval : Value.okWide P W r base t v) (h : DataW.Trod enc P W 0 (fun _ => true) true t v d p) :
    ∃ xs : List Int, Row W k v xs ∧ xs.length ≤ maxLen ∧ ∀ x ∈ xs, (Lit.int k x).wf = true := by
  obtain ⟨a0, len, cap, rfl⟩ := okWide_slice ht hval
  obtain ⟨fuel, hf⟩ := h
  rcases open_ints ht he hc hf with ⟨hcs, hx⟩ | ⟨a, len', cap', zs, hcs, _, hl, hm, hz, hx, hcell, hwz⟩
  · have : Value.slice a0 len cap = .slice none 0 0 := by simpa [Value.cells] using hcs
    rw [this]
    exact ⟨[], Or.inl ⟨rfl, none, 0, rfl⟩, by simp, by simp⟩
  · have : Value.slice a0 len cap = .slice (some a) len' cap' := by simpa [Value.cells] using hcs
    rw [this]
    have hzl : zs.length = cap' := by simpa using hz
    have htl : (zs.take len').length = len' := by rw [List.length_take]; omega
    refine ⟨zs.take len', ?_, by rw [htl]; omega, fun x hx => hwz x (List.mem_of_mem_take hx)⟩
    by_cases h0 : len' = 0
    · subst h0
      exact Or.inl ⟨by simp, _, _, rfl⟩
    · obtain ⟨b, off, rfl, hcc⟩ := ints_at hcell (by omega)
      refine Or.inr ⟨b, off, cap', by rw [htl], cell_ltL (hcc 0 (by omega)), by rw [htl]; exact ⟨hl, hm⟩, fun j hj => ?_⟩
      rw [htl] at hj
      rw [hcc j (by omega)]
      simp [List.getD, hj]
end Go.Proofs.YtdommkpeilmdnaaDoor

namespace Go.Proofs.YtdommkpeilmdnaaDoor
open Go
set_option linter.unusedVariables false

section
variable {P : Program} {ops : Array Oper} {Q : Exit → Act → World → Prop} {md : Region.Mode} {S : World → Prop} {z : Nat}

/-- Whatever order is picked from here on; S holds behind each operation but z (the store that ends the statement). -/
def anyZ (P : Program) (md : Region.Mode) (ops : Array Oper) (Q : Exit → Act → World → Prop) (S : World → Prop) (z : Nat) : Nat → Array Bool → Act → World → Prop
  | 0, l, a, w => Region.ready md ops l = [] ∧ Q .normal a w
  | n + 1, l, a, w => (Region.ready md ops l = [] → Q .normal a w) ∧ ∀ j ∈ Region.ready md ops l, wpOp P ops Q j (fun a' w' => (j ≠ z → S w') ∧ anyZ P md ops Q S z n (l.setIfInBounds j true) a' w') a w
theorem any_ofZ : ∀ (n : Nat) (l : Array Bool) (a : Act) (w : World), anyZ P md ops Q S z n l a w → wpAny P md ops Q n l a w
  | 0, _, _, _, h => h
  | n + 1, _, _, _, h => ⟨h.1, fun j hj => wpOp_mono (fun a' w' k => any_ofZ n _ a' w' k.2) (h.2 j hj)⟩
/-- What z waits for may be taken first, where it yields its value in each world that meets S. -/
theorem anyZ_first {i : Nat} {oi : Oper} {v : Value} (hi : ops[i]? = some oi) (hsel : ∀ (j : Nat) (o : Oper) cs b, ops[j]? = some o → o.op ≠ .select cs b)
    (hQ : ∀ c a w, Q (.panic c) (a.put oi.dst v) w → Q (.panic c) a w) (hiz : i ≠ z) (hz : ∀ oz, ops[z]? = some oz → ∃ e ∈ oz.after, Region.binds md e = true ∧ e.on = i) :
    ∀ (n : Nat) (l : Array Bool) (a : Act) (w : World),
      (∀ j oj, ops[j]? = some oj → j ≠ i → l.getD j true = false → (∀ e ∈ oj.after, Region.binds md e = true → e.on ≠ i) → oi.apart ops oj = true) →
      i ∈ Region.ready md ops l → YieldsIf P ops S oi v a → S w →
      anyZ P md ops Q S z n (l.setIfInBounds i true) (a.put oi.dst v) w → anyZ P md ops Q S z (n + 1) l a w := by
  intro n
  induction n with
  | zero =>
    intro l a w _ hr hy hS H
    refine ⟨fun h => absurd (h ▸ hr) List.not_mem_nil, fun j hj => ?_⟩
    by_cases hji : j = i
    · subst hji
      exact hy.wpOp hi hS ⟨fun _ => hS, H⟩
    · exact absurd (H.1 ▸ ready_mono hj hji) List.not_mem_nil
  | succ n ih =>
    intro l a w hf hr hy hS H
    refine ⟨fun h => absurd (h ▸ hr) List.not_mem_nil, fun j hj => ?_⟩
    by_cases hji : j = i
    · subst hji
      exact hy.wpOp hi hS ⟨fun _ => hS, H⟩
    · obtain ⟨hun, oj, hoj, hall⟩ := mem_ready.1 hj
      have hno : ∀ e ∈ oj.after, Region.binds md e = true → e.on ≠ i := by
        intro e he hb hei
        have h1 := hall e he hb
        have h0 := (mem_ready.1 hr).1
        rw [hei] at h1
        by_cases hlt : i < l.size
        · simp [hlt] at h0 h1
          rw [h0] at h1
          cases h1
        · simp [Array.getElem?_eq_none (Nat.le_of_not_lt hlt)] at h1
      have hjz : j ≠ z := by
        intro e
        subst e
        obtain ⟨e, he, hb, hei⟩ := hz oj hoj
        exact hno e he hb hei
      have h2 := wpOp_putIf hoj (hf j oj hoj hji hun hno) (fun cs b => hsel i oi cs b hi) (fun cs b => hsel j oj cs b hoj) hQ hy (H.2 j (ready_mono hj hji))
      refine wpOp_mono (fun a' w' k => ⟨k.2.1, ih (l.setIfInBounds j true) a' w' (fun k' ok hk hki hunk hnok => ?_) (ready_mono hr (Ne.symm hji)) k.1 (k.2.1 hjz) (by rw [Array.setIfInBounds_comm _ _ hji]; exact k.2.2)⟩) h2
      refine hf k' ok hk hki ?_ hnok
      by_cases hjk : j = k'
      · rw [← hjk]
        exact hun
      · rw [getD_set_ne true hjk] at hunk
        exact hunk
theorem anyZ_take {i : Nat} {oi : Oper} {v : Value} {n : Nat} {l : Array Bool} {a : Act} {w : World} (hi : ops[i]? = some oi)
    (hs : Region.noSelect ops = true) (hf : Region.free md ops l i = true) (hr : (Region.ready md ops l).contains i = true) (hiz : i ≠ z) (hz : (ops[z]?).any (fun oz => oz.after.any fun e => Region.binds md e && e.on == i) = true)
    (hQ : ∀ c a w, Q (.panic c) (a.put oi.dst v) w → Q (.panic c) a w) (hy : YieldsIf P ops S oi v a) (hS : S w)
    (h : anyZ P md ops Q S z n (l.setIfInBounds i true) (a.put oi.dst v) w) : anyZ P md ops Q S z (n + 1) l a w :=
  anyZ_first hi (Region.noSelect_spec hs) hQ hiz (fun oz ho => by
    rw [ho] at hz
    simp only [Option.any_some, Array.any_eq_true, Bool.and_eq_true, beq_iff_eq] at hz
    obtain ⟨k, hk, h1, h2⟩ := hz
    exact ⟨_, Array.getElem_mem hk, h1, h2⟩) n l a w (Region.free_spec hi hf) (by simpa using hr) hy hS h
def StepZ (P : Program) (md : Region.Mode) (ops : Array Oper) (Q : Exit → Act → World → Prop) (S : World → Prop) (z n : Nat) (l : Array Bool) (a : Act) (w : World) (i : Nat) (o : Oper) : Prop :=
  ∀ K : Act → World → Prop, (∀ a w, (i ≠ z → S w) → anyZ P md ops Q S z n (l.setIfInBounds i true) a w → K a w) → if Region.wanted o (yielded ops a.tmps) = true then Oper.wp P o a w K Q else K (a.put o.dst undef) w
theorem anyZ_one {i : Nat} {o : Oper} {n : Nat} {l : Array Bool} {a : Act} {w : World} (hr : Region.ready md ops l = [i]) (ho : ops[i]? = some o)
    (h : ∀ K : Act → World → Prop, (∀ a w, (i ≠ z → S w) → anyZ P md ops Q S z n (l.setIfInBounds i true) a w → K a w) → if Region.wanted o (yielded ops a.tmps) = true then Oper.wp P o a w K Q else K (a.put o.dst undef) w) : anyZ P md ops Q S z (n + 1) l a w := by
  refine ⟨fun h0 => (by rw [hr] at h0; cases h0), fun j hj => ?_⟩
  rw [hr] at hj
  rw [List.mem_singleton.1 hj]
  exact wpOp_step ho (fun K hK => h K (fun a w h1 h2 => hK a w ⟨h1, h2⟩))
theorem anyZ_two {i k : Nat} {o p : Oper} {n : Nat} {l : Array Bool} {a : Act} {w : World} (hr : Region.ready md ops l = [i, k]) (ho : ops[i]? = some o) (hp : ops[k]? = some p)
    (h : ∀ K : Act → World → Prop, (∀ a w, (i ≠ z → S w) → anyZ P md ops Q S z n (l.setIfInBounds i true) a w → K a w) → if Region.wanted o (yielded ops a.tmps) = true then Oper.wp P o a w K Q else K (a.put o.dst undef) w)
    (h2 : ∀ K : Act → World → Prop, (∀ a w, (k ≠ z → S w) → anyZ P md ops Q S z n (l.setIfInBounds k true) a w → K a w) → if Region.wanted p (yielded ops a.tmps) = true then Oper.wp P p a w K Q else K (a.put p.dst undef) w) : anyZ P md ops Q S z (n + 1) l a w := by
  refine ⟨fun h0 => (by rw [hr] at h0; cases h0), fun j hj => ?_⟩
  rw [hr] at hj
  rcases List.mem_cons.1 hj with e | hj
  · rw [e]
    exact wpOp_step ho (fun K hK => h K (fun a w h1 h2 => hK a w ⟨h1, h2⟩))
  · rw [List.mem_singleton.1 hj]
    exact wpOp_step hp (fun K hK => h2 K (fun a w h1 h2 => hK a w ⟨h1, h2⟩))
theorem anyZ_done {n : Nat} {l : Array Bool} {a : Act} {w : World} (hr : Region.ready md ops l = []) (h : Q .normal a w) : anyZ P md ops Q S z n l a w := by
  cases n with
  | zero => exact ⟨hr, h⟩
  | succ n => exact ⟨fun _ => h, by rw [hr]; simp⟩
theorem region_Z {id : Nat} {a : Act} {w : World} (hm : P.follows .mixedOrders = true) (h : anyZ P .any ops Q S z ops.size (Array.replicate ops.size false) a w.drew) : (Code.region id ops true).wp P Q a w :=
  wp_region_any hm (any_ofZ _ _ _ _ h)
end
end Go.Proofs.YtdommkpeilmdnaaDoor

namespace Go.Proofs.YtdommkpeilmdnaaDoor
open Go.RowKit
set_option linter.unusedVariables false

/-- A text's bytes. -/
def txU (s : ByteArray) : List Int := s.data.toList.map fun b => (b.toNat : Int)
theorem txU_length (s : ByteArray) : (txU s).length = s.size := by unfold txU; rw [List.length_map, Array.length_toList]; rfl
theorem txU_bytes (s : ByteArray) : Bytes (txU s) := by
  intro x hx
  obtain ⟨b, _, rfl⟩ := List.mem_map.1 hx
  have := b.toNat_lt
  omega
/-- '[]byte(s)'. -/
theorem convU (w : World) (s : ByteArray) (hs : s.size ≤ 4096) : ∃ C W, (convert 9 22 (.string s)).run Tryd.prog w = .ok (.slice (some ⟨w.heap.size, 0, none⟩) s.size C) W ∧ Row W .u8 (.slice (some ⟨w.heap.size, 0, none⟩) s.size C) (txU s) ∧ Below w.heap.size w W ∧ w.heap.size < W.heap.size := by
  refine ⟨_, _, Lib.run_convert_string_bytes w 9 22 5 s Tryd.underlying9 Tryd.underlying22 Tryd.underlying5, ?_, ⟨rfl, rfl, rfl, by rw [Lib.bytesWorld_size]; omega, fun k hk => Lib.bytesWorld_at_old w _ s k hk⟩, by rw [Lib.bytesWorld_size]; omega⟩
  refine Or.inr ⟨w.heap.size, 0, _, by rw [txU_length], by rw [Lib.bytesWorld_size]; omega, ⟨by rw [txU_length]; exact grownCap_ge w s.size 0 5, grownCap_le_maxLen w s.size 0 5 (by unfold maxLen; omega)⟩, fun j hj => ?_⟩
  rw [txU_length] at hj
  rw [Nat.zero_add, Lib.bytesWorld_cell w _ s j hj]
  have hd : j < s.data.toList.length := by rw [Array.length_toList]; exact hj
  simp only [txU, List.getD, List.getElem?_map, List.getElem?_eq_getElem hd, Option.map_some, Option.getD_some]
/-- A draw that is known ahead of it. -/
theorem nextX (g : Nat) (c : Value) (xs : List Int) (p n : Int) (W : World) (h : Dt W g c xs p) (hp : p ≤ 1000000) (h1 : 1 ≤ n) (h2 : n ≤ 2147483648) :
    ∃ k : Int, 0 ≤ k ∧ k < n ∧ ∀ u : World, Below W.heap.size W u → Calls Tryd.prog 31 #[.pointer (some ⟨g, 0, none⟩), .int .i64 n] u fun e w' => e = .returned (.int .i64 k) ∧ Dt w' g c xs (p + 3) ∧ u.grownBy w' (some g) := by
  obtain ⟨l, s, hd, hs⟩ := h
  have b := nextV_bd xs n s h1
  have q := nextS_pos xs n s
  refine ⟨_, b.1, b.2, fun u hu => (nextC g c xs n s u (hd.kept (grownT_below hu none) (by simp) (by intros; simp)) (by omega) h1 h2).mono ?_⟩
  rintro e w' ⟨rfl, d, gr⟩
  exact ⟨rfl, ⟨l, _, d, by omega⟩, gr⟩
theorem tabS_at (j : Int) (h0 : 0 ≤ j) (h1 : j < 4) : ∃ y : Int, ∀ (w : World) (b : Nat), w.heap[b]? = some tabS → w.cell? ⟨b, j.toNat, none⟩ = some (.int .i64 y) := by
  obtain rfl | rfl | rfl | rfl : j = 0 ∨ j = 1 ∨ j = 2 ∨ j = 3 := by omega
  all_goals exact ⟨_, fun w b h => (bk_cell h _).trans rfl⟩
theorem lit_flat2 (w : World) (o : Obj) (cs : List Value) (T : TypeId) : GRow cs.length ((w.alloc o).alloc (.cells cs.toArray T)) (.slice (some ⟨w.heap.size + 1, 0, none⟩) 1 1) [cs] := by
  have h := lit_flat (w.alloc o) cs T
  rwa [show (w.alloc o).heap.size = w.heap.size + 1 by simp] at h
theorem GOwns.mapS {T : TypeId} {K base : Nat} {w : World} {v : Value} {L M : List SSetting} (h : GOwns T K w base v (SSetting.L L ++ SSetting.L M)) : GOwns T K w base v (SSetting.L (L ++ M)) := by
  rw [SSetting.L, List.map_append]; exact h
set_option maxRecDepth 20000 in
set_option maxHeartbeats 4000000 in
theorem drawFr (g : Nat) (c : Value) (xs : List Int) (W : World) (h : Dt W g c xs 0) :
    Calls Tryd.prog 10 #[.pointer (some ⟨g, 0, none⟩)] W fun e w' => ∃ (f : HF) (d s : Value), e = .returned (hV f d s) ∧ Row w' .u8 d f.d ∧ Bytes f.d ∧ f.d.length ≤ 16385 ∧ GOwns 62 2 w' W.heap.size s (SSetting.L f.s) ∧ f.s.length ≤ 20 ∧ W.grownBy w' (some g) ∧ (0 < f.d.length → ∀ j, d.ownBlock = some j → W.heap.size ≤ j) := by
  have HD : Hid _ := And.intro h (And.intro h.lt True.intro)
  clear h
  go_enter Tryd.func10, Tryd.ntmps10
  go_wp2_with fail
  go_at_call 30
  refine (goodU g c xs 0 _ (HD.out.1.alloc _) (by decide)).mono ?_
  rintro e w1 ⟨x, rfl, d1, g1⟩
  have r1 : fB w1 W.heap.size 0 0 (.slice none 0 0) (.slice none 0 0) := blk_drawnT (heap_alloc_new W _) g1 (by have := HD.out.2.1; omega)
  have H1 : Hid _ := And.intro d1 (And.intro (show W.grownBy w1 (some g) from grown_trans (World.grownBy_alloc W _ (some g)) g1) r1)
  have hz1 : W.heap.size < w1.heap.size := by have := g1.size; simp at this; omega
  clear d1 g1 r1
  go_wp2_with fail
  go_at_call 31
  refine (nextT g c xs (0 + 12) 10 (w1.alloc (tabK x)) (H1.out.1.alloc _) (by decide) (by decide) (by decide)).mono ?_
  rintro e w2 ⟨i, rfl, i0, i1, d2, g2⟩
  have t2 : w2.heap[w1.heap.size]? = some (tabK x) := blk_drawnT (heap_alloc_new w1 _) g2 (by have := HD.out.2.1; omega)
  obtain ⟨k, hk⟩ := tabK_at t2 i i0 i1
  have G2 : W.grownBy w2 (some g) := grown_trans H1.out.2.1 (grown_trans (World.grownBy_alloc w1 _ (some g)) g2)
  have r2 : fB w2 W.heap.size 0 0 (.slice none 0 0) (.slice none 0 0) := blk_drawnT (blk_allocT H1.out.2.2 _) g2 (by have := HD.out.2.1; omega)
  have hz2 : W.heap.size < w2.heap.size := by have := g2.size; simp at this; omega
  have I2 : DrI W g w2.heap.size W.heap.size c xs (0 + 12 + 3) (w2.alloc (.cells #[.int .i64 k, .int .i64 0, .slice none 0 0, .slice none 0 0] 26)) k 0 (.slice none 0 0) [] (.slice none 0 0) [] :=
    ⟨d2.alloc _, grown_trans G2 (World.grownBy_alloc w2 _ (some g)), heap_alloc_new w2 _, blk_allocT r2 _, Or.inl ⟨rfl, _, _, rfl⟩, (fun y hy => by cases hy), GOwns.nil _ _ _ _, HD.out.2.1, Nat.le_refl _, hz2, fun h => by simp at h⟩
  have H2 : Hid _ := And.intro I2 True.intro
  clear d2 g2 t2 G2 r2 I2 H1 hz1 hz2
  have c20 : (w2.alloc (.cells #[.int .i64 k, .int .i64 0, .slice none 0 0, .slice none 0 0] 26)).cell? ⟨w2.heap.size, 0, none⟩ = some (.int .i64 k) := H2.out.1.fr.c0
  go_upto_region 2 with fail
  generalize hfb : w2.heap.size = fb at *
  generalize hw : w2.alloc (.cells #[.int .i64 k, .int .i64 0, .slice none 0 0, .slice none 0 0] 26) = w3 at *
  go_upto_block 0 with fail
  go_cut [4] from 13 to 64 (fun c4 wx => ∃ (k a : Int) (d : Value) (ys : List Int) (s : Value) (L : List SSetting), DrI W g fb W.heap.size c xs 3000 wx k a d ys s L ∧ ys.length ≤ 100 ∧ L.length ≤ 4 ∧ (ys = [] ∨ (s = .slice none 0 0 ∧ L = [])))
  case first =>
    by_cases h4 : k = 4
    · subst h4
      go_wp2_with fail
      go_at_call 31
      refine (nextT g c xs _ 5 w3 H2.out.1.dt (by decide) (by decide) (by decide)).mono ?_
      rintro e w4 ⟨n, rfl, n0, n1, d4, g4⟩
      obtain ⟨m, rfl⟩ := Int.eq_ofNat_of_zero_le n0
      have H4 : Hid _ := And.intro (H2.out.1.draw d4 g4) True.intro
      clear d4 g4
      go_wp2_with fail
      go_loopw [4] (fun i wr => ∃ q : Nat, q ≤ 4 ∧ i = .int .i64 (q : Int) ∧ ∃ (z : Value) (L : List SSetting), DrI W g fb W.heap.size c xs (18 + 15 * (4 - (q : Int))) wr 4 0 (.slice none 0 0) [] z L ∧ L.length + q ≤ 4) (fun i _ => (intOf i).toNat)
      case atStart => exact ⟨m, by omega, rfl, _, [], H4.out.1.mono (by omega), by simp; omega⟩
      case round =>
        obtain ⟨q, hq, rfl, z, L, I, hL⟩ := hrel
        by_cases hlt : 0 < q
        · have h4 : (0 : Int) < q := by omega
          obtain ⟨sa, sc, es⟩ := I.ow.row.form
          obtain ⟨nz, enz⟩ : ∃ nz, nz = (SSetting.L L).length := ⟨_, rfl⟩
          rw [← enz] at es
          clear enz
          subst es
          have c3d : wr.drew.cell? ⟨fb, 3, none⟩ = some (.slice sa nz sc) := I.drew.fr.c3
          have c3t : (wr.alloc (.cells #[.int .i64 1, .int .i64 6, .int .i64 7, .int .i64 33] 3)).cell? ⟨fb, 3, none⟩ = some (.slice sa nz sc) := (I.drew.alloc tabS).fr.c3
          obtain ⟨b, b0, b1, hN⟩ := nextX g c xs _ 2 wr.drew I.drew.dt (by omega) (by decide) (by decide)
          have HI : Hid _ := And.intro I.drew (And.intro hL (And.intro hN True.intro))
          clear I hL hN
          have e1 : IntKind.i64.wrap (b * 2) = b * 2 := by rw [IntKind.wrap_i64]; omega
          have e2 : IntKind.i64.wrap ((q : Int) + b * 2) = (q : Int) + b * 2 := by rw [IntKind.wrap_i64]; omega
          obtain ⟨j, hj⟩ : ∃ j : Int, ((q : Int) + b * 2).tmod 4 = j := ⟨_, rfl⟩
          have hj4 : 0 ≤ j ∧ j < 4 := by rw [Int.tmod_eq_emod_of_nonneg (by omega)] at hj; omega
          obtain ⟨hj0, hj1⟩ := hj4
          obtain ⟨y, hy⟩ := tabS_at j hj0 hj1
          have HY : Hid _ := And.intro hy True.intro
          clear hy
          go_wp2_with fail
          refine region_Z (S := fun u => u.cell? ⟨fb, 3, none⟩ = some (.slice sa nz sc)) (z := 17) (by kernel_rfl) ?_
          refine anyZ_take (i := 0) (v := .pointer (some ⟨fb, 3, none⟩)) rfl (by kernel_rfl) (by kernel_rfl) (by kernel_rfl) (by decide) (by kernel_rfl) (fun _ _ _ h => h) (Or.inl ⟨by rfl, fun u _ => by go_simp⟩) HI.out.1.fr.c3 ?_
          refine anyZ_take (i := 1) (v := .slice sa nz sc) rfl (by kernel_rfl) (by kernel_rfl) (by kernel_rfl) (by decide) (by kernel_rfl) (fun _ _ _ h => h) (Or.inl ⟨by rfl, fun u hu => by have hu2 : u.cell? ⟨fb, 3, none⟩ = some (.slice sa nz sc) := hu; go_simp⟩) HI.out.1.fr.c3 ?_
          refine anyZ_take (i := 3) (v := .int .i64 (q : Int)) rfl (by kernel_rfl) (by kernel_rfl) (by kernel_rfl) (by decide) (by kernel_rfl) (fun _ _ _ h => h) (Or.inl ⟨by rfl, fun u _ => by go_simp⟩) HI.out.1.fr.c3 ?_
          refine anyZ_take (i := 4) (v := .pointer (some ⟨g, 0, none⟩)) rfl (by kernel_rfl) (by kernel_rfl) (by kernel_rfl) (by decide) (by kernel_rfl) (fun _ _ _ h => h) (Or.inl ⟨by rfl, fun u _ => by go_simp⟩) HI.out.1.fr.c3 ?_
          refine anyZ_take (i := 11) (v := .pointer (some ⟨g, 0, none⟩)) rfl (by kernel_rfl) (by kernel_rfl) (by kernel_rfl) (by decide) (by kernel_rfl) (fun _ _ _ h => h) (Or.inl ⟨by rfl, fun u _ => by go_simp⟩) HI.out.1.fr.c3 ?_
          refine anyZ_two (i := 2) (k := 5) (by kernel_rfl) rfl rfl (fun K hK => ?_) (fun K hK => ?_)
          · go_simp
            refine hK _ _ (fun _ => (HI.out.1.alloc tabS).fr.c3) ?_
            clear hK K
            refine anyZ_one (i := 5) (by kernel_rfl) rfl (fun K hK => ?_)
            go_simp
            go_at_call 31
            refine (HI.out.2.2.1 (wr.drew.alloc tabS) ((Below.refl _ _).alloc (Nat.le_refl _) _)).mono ?_
            rintro e w7 ⟨rfl, d7, g7⟩
            have I7 := (HI.out.1.alloc tabS).draw d7 g7
            have t7 : w7.heap[wr.heap.size]? = some tabS := blk_drawnT (heap_alloc_new wr.drew tabS) g7 (by have h1 := HI.out.1.gl; have h2 := HI.out.1.gr.size; have h3 : wr.drew.heap.size = wr.heap.size := rfl; omega)
            have y7 := HY.out.1 w7 _ t7
            have H7 : Hid _ := And.intro I7 t7
            clear I7 d7 g7 t7
            refine hK _ _ (fun _ => H7.out.1.fr.c3) ?_
            clear hK K
            refine anyZ_take (i := 6) (v := .int .i64 (b * 2)) rfl (by kernel_rfl) (by kernel_rfl) (by kernel_rfl) (by decide) (by kernel_rfl) (fun _ _ _ h => h) (Or.inl ⟨by rfl, fun u _ => by go_simp⟩) H7.out.1.fr.c3 ?_
            refine anyZ_take (i := 7) (v := .int .i64 ((q : Int) + b * 2)) rfl (by kernel_rfl) (by kernel_rfl) (by kernel_rfl) (by decide) (by kernel_rfl) (fun _ _ _ h => h) (Or.inl ⟨by rfl, fun u _ => by go_simp⟩) H7.out.1.fr.c3 ?_
            refine anyZ_take (i := 8) (v := .int .i64 j) rfl (by kernel_rfl) (by kernel_rfl) (by kernel_rfl) (by decide) (by kernel_rfl) (fun _ _ _ h => h) (Or.inl ⟨by rfl, fun u _ => by go_simp⟩) H7.out.1.fr.c3 ?_
            refine anyZ_take (i := 9) (v := .pointer (some ⟨wr.heap.size, j.toNat, none⟩)) rfl (by kernel_rfl) (by kernel_rfl) (by kernel_rfl) (by decide) (by kernel_rfl) (fun _ _ _ h => h) (Or.inl ⟨by rfl, fun u _ => by go_simp⟩) H7.out.1.fr.c3 ?_
            refine anyZ_two (i := 10) (k := 12) (by kernel_rfl) rfl rfl (fun K hK => ?_) (fun K hK => ?_)
            · go_simp
              refine hK _ _ (fun _ => H7.out.1.fr.c3) ?_
              clear hK K
              refine anyZ_one (i := 12) (by kernel_rfl) rfl (fun K hK => ?_)
              go_simp
              go_at_call 30
              refine (goodU g c xs _ w7 H7.out.1.dt (by omega)).mono ?_
              rintro e w8 ⟨x8, rfl, d8, g8⟩
              have I8 := H7.out.1.draw d8 g8
              have y8 := HY.out.1 w8 _ (blk_drawnT H7.out.2 g8 (by have h1 := HI.out.1.gl; have h2 := HI.out.1.gr.size; have h3 : wr.drew.heap.size = wr.heap.size := rfl; omega))
              have H8 : Hid _ := And.intro I8 True.intro
              clear I8 d8 g8
              refine hK _ _ (fun _ => H8.out.1.fr.c3) ?_
              clear hK K
              refine anyZ_take (i := 13) (v := .agg #[.int .i64 y, .int .i64 x8]) rfl (by kernel_rfl) (by kernel_rfl) (by kernel_rfl) (by decide) (by kernel_rfl) (fun _ _ _ h => h) (Or.inl ⟨by rfl, fun u _ => by go_simp⟩) H8.out.1.fr.c3 ?_
              refine anyZ_one (i := 14) (by kernel_rfl) rfl (fun K hK => ?_)
              go_simp
              refine hK _ _ (fun _ => (H8.out.1.alloc (.cells #[.int .i64 y, .int .i64 x8] 62)).fr.c3) ?_
              clear hK K
              refine anyZ_one (i := 15) (by kernel_rfl) rfl (fun K hK => ?_)
              refine step_append_flat rfl _ _ 24 62 Tryd.underlying24 _ 2 16 infoSetting rfl (by decide) (by decide) rfl (fb + 1) (.slice sa nz sc) (SSetting.L L) (SSetting.flat _) rfl (H8.out.1.alloc _).ow _ (SSetting.L [⟨y, x8⟩]) (SSetting.flat _) rfl (lit_flat w8 [.int .i64 y, .int .i64 x8] 62) (by have := HI.out.2.1; simp; omega) (by have := H8.out.1.fr.lt; simp at this ⊢; omega) ?_
              intro v9 w9 o9 g9
              have hown := H8.out.1.ow.ownU
              have F9 := (H8.out.1.alloc _).grF (Nat.le_refl _) g9 hown
              have o9 := o9.mapS
              have I9 := (H8.out.1.alloc _).push (Nat.le_refl _) (fun h => by simp at h) g9 hown o9
              obtain ⟨va9, vc9, e9⟩ := o9.row.form
              generalize (SSetting.L (L ++ [⟨y, x8⟩])).length = n9 at e9
              subst e9
              have c39 := F9.c3
              have f39 := F9.fr 3
              have H9 : Hid _ := And.intro I9 F9
              clear o9 g9 hown F9 I9
              refine hK _ _ (fun _ => H9.out.2.c3) ?_
              clear hK K
              refine anyZ_take (i := 16) (v := .pointer (some ⟨fb, 3, none⟩)) rfl (by kernel_rfl) (by kernel_rfl) (by kernel_rfl) (by decide) (by kernel_rfl) (fun _ _ _ h => h) (Or.inl ⟨by rfl, fun u _ => by go_simp⟩) H9.out.2.c3 ?_
              refine anyZ_one (i := 17) (by kernel_rfl) rfl (fun K hK => ?_)
              go_simp
              refine hK _ _ (fun h => absurd rfl h) ?_
              clear hK K
              refine anyZ_done (by kernel_rfl) ?_
              go_wp2
              go_roundw
              case rel => exact ⟨q - 1, by omega, by congr 1; omega, _, _, H9.out.1.mono (by omega), by have := HI.out.2.1; simp; omega⟩
              case measure => simp [intOf]; omega
            · go_simp
              go_at_call 30
              refine (goodU g c xs _ w7 H7.out.1.dt (by omega)).mono ?_
              rintro e w8 ⟨x8, rfl, d8, g8⟩
              have I8 := H7.out.1.draw d8 g8
              have y8 := HY.out.1 w8 _ (blk_drawnT H7.out.2 g8 (by have h1 := HI.out.1.gl; have h2 := HI.out.1.gr.size; have h3 : wr.drew.heap.size = wr.heap.size := rfl; omega))
              have H8 : Hid _ := And.intro I8 True.intro
              clear I8 d8 g8
              refine hK _ _ (fun _ => H8.out.1.fr.c3) ?_
              clear hK K
              refine anyZ_one (i := 10) (by kernel_rfl) rfl (fun K hK => ?_)
              go_simp
              refine hK _ _ (fun _ => H8.out.1.fr.c3) ?_
              clear hK K
              refine anyZ_take (i := 13) (v := .agg #[.int .i64 y, .int .i64 x8]) rfl (by kernel_rfl) (by kernel_rfl) (by kernel_rfl) (by decide) (by kernel_rfl) (fun _ _ _ h => h) (Or.inl ⟨by rfl, fun u _ => by go_simp⟩) H8.out.1.fr.c3 ?_
              refine anyZ_one (i := 14) (by kernel_rfl) rfl (fun K hK => ?_)
              go_simp
              refine hK _ _ (fun _ => (H8.out.1.alloc (.cells #[.int .i64 y, .int .i64 x8] 62)).fr.c3) ?_
              clear hK K
              refine anyZ_one (i := 15) (by kernel_rfl) rfl (fun K hK => ?_)
              refine step_append_flat rfl _ _ 24 62 Tryd.underlying24 _ 2 16 infoSetting rfl (by decide) (by decide) rfl (fb + 1) (.slice sa nz sc) (SSetting.L L) (SSetting.flat _) rfl (H8.out.1.alloc _).ow _ (SSetting.L [⟨y, x8⟩]) (SSetting.flat _) rfl (lit_flat w8 [.int .i64 y, .int .i64 x8] 62) (by have := HI.out.2.1; simp; omega) (by have := H8.out.1.fr.lt; simp at this ⊢; omega) ?_
              intro v9 w9 o9 g9
              have hown := H8.out.1.ow.ownU
              have F9 := (H8.out.1.alloc _).grF (Nat.le_refl _) g9 hown
              have o9 := o9.mapS
              have I9 := (H8.out.1.alloc _).push (Nat.le_refl _) (fun h => by simp at h) g9 hown o9
              obtain ⟨va9, vc9, e9⟩ := o9.row.form
              generalize (SSetting.L (L ++ [⟨y, x8⟩])).length = n9 at e9
              subst e9
              have c39 := F9.c3
              have f39 := F9.fr 3
              have H9 : Hid _ := And.intro I9 F9
              clear o9 g9 hown F9 I9
              refine hK _ _ (fun _ => H9.out.2.c3) ?_
              clear hK K
              refine anyZ_take (i := 16) (v := .pointer (some ⟨fb, 3, none⟩)) rfl (by kernel_rfl) (by kernel_rfl) (by kernel_rfl) (by decide) (by kernel_rfl) (fun _ _ _ h => h) (Or.inl ⟨by rfl, fun u _ => by go_simp⟩) H9.out.2.c3 ?_
              refine anyZ_one (i := 17) (by kernel_rfl) rfl (fun K hK => ?_)
              go_simp
              refine hK _ _ (fun h => absurd rfl h) ?_
              clear hK K
              refine anyZ_done (by kernel_rfl) ?_
              go_wp2
              go_roundw
              case rel => exact ⟨q - 1, by omega, by congr 1; omega, _, _, H9.out.1.mono (by omega), by have := HI.out.2.1; simp; omega⟩
              case measure => simp [intOf]; omega
          · go_simp
            go_at_call 31
            refine (HI.out.2.2.1 wr.drew (Below.refl _ _)).mono ?_
            rintro e w7 ⟨rfl, d7, g7⟩
            have I7 := HI.out.1.draw d7 g7
            have y7t : (w7.alloc (.cells #[.int .i64 1, .int .i64 6, .int .i64 7, .int .i64 33] 3)).cell? ⟨w7.heap.size, j.toNat, none⟩ = some (.int .i64 y) := HY.out.1 _ _ (heap_alloc_new w7 tabS)
            have H7 : Hid _ := And.intro I7 True.intro
            clear I7 d7 g7
            refine hK _ _ (fun _ => H7.out.1.fr.c3) ?_
            clear hK K
            refine anyZ_take (i := 6) (v := .int .i64 (b * 2)) rfl (by kernel_rfl) (by kernel_rfl) (by kernel_rfl) (by decide) (by kernel_rfl) (fun _ _ _ h => h) (Or.inl ⟨by rfl, fun u _ => by go_simp⟩) H7.out.1.fr.c3 ?_
            refine anyZ_take (i := 7) (v := .int .i64 ((q : Int) + b * 2)) rfl (by kernel_rfl) (by kernel_rfl) (by kernel_rfl) (by decide) (by kernel_rfl) (fun _ _ _ h => h) (Or.inl ⟨by rfl, fun u _ => by go_simp⟩) H7.out.1.fr.c3 ?_
            refine anyZ_take (i := 8) (v := .int .i64 j) rfl (by kernel_rfl) (by kernel_rfl) (by kernel_rfl) (by decide) (by kernel_rfl) (fun _ _ _ h => h) (Or.inl ⟨by rfl, fun u _ => by go_simp⟩) H7.out.1.fr.c3 ?_
            refine anyZ_two (i := 2) (k := 12) (by kernel_rfl) rfl rfl (fun K hK => ?_) (fun K hK => ?_)
            · go_simp
              refine hK _ _ (fun _ => (H7.out.1.alloc tabS).fr.c3) ?_
              clear hK K
              refine anyZ_take (i := 9) (v := .pointer (some ⟨w7.heap.size, j.toNat, none⟩)) rfl (by kernel_rfl) (by kernel_rfl) (by kernel_rfl) (by decide) (by kernel_rfl) (fun _ _ _ h => h) (Or.inl ⟨by rfl, fun u _ => by go_simp⟩) (H7.out.1.alloc tabS).fr.c3 ?_
              refine anyZ_two (i := 10) (k := 12) (by kernel_rfl) rfl rfl (fun K hK => ?_) (fun K hK => ?_)
              · go_simp
                refine hK _ _ (fun _ => (H7.out.1.alloc tabS).fr.c3) ?_
                clear hK K
                refine anyZ_one (i := 12) (by kernel_rfl) rfl (fun K hK => ?_)
                go_simp
                go_at_call 30
                refine (goodU g c xs _ (w7.alloc tabS) (H7.out.1.alloc tabS).dt (by omega)).mono ?_
                rintro e w8 ⟨x8, rfl, d8, g8⟩
                have I8 := (H7.out.1.alloc tabS).draw d8 g8
                have y8 := HY.out.1 w8 _ (blk_drawnT (heap_alloc_new w7 tabS) g8 (by have h1 := H7.out.1.gl; have h2 := H7.out.1.gr.size; omega))
                have H8 : Hid _ := And.intro I8 True.intro
                clear I8 d8 g8
                refine hK _ _ (fun _ => H8.out.1.fr.c3) ?_
                clear hK K
                refine anyZ_take (i := 13) (v := .agg #[.int .i64 y, .int .i64 x8]) rfl (by kernel_rfl) (by kernel_rfl) (by kernel_rfl) (by decide) (by kernel_rfl) (fun _ _ _ h => h) (Or.inl ⟨by rfl, fun u _ => by go_simp⟩) H8.out.1.fr.c3 ?_
                refine anyZ_one (i := 14) (by kernel_rfl) rfl (fun K hK => ?_)
                go_simp
                refine hK _ _ (fun _ => (H8.out.1.alloc (.cells #[.int .i64 y, .int .i64 x8] 62)).fr.c3) ?_
                clear hK K
                refine anyZ_one (i := 15) (by kernel_rfl) rfl (fun K hK => ?_)
                refine step_append_flat rfl _ _ 24 62 Tryd.underlying24 _ 2 16 infoSetting rfl (by decide) (by decide) rfl (fb + 1) (.slice sa nz sc) (SSetting.L L) (SSetting.flat _) rfl (H8.out.1.alloc _).ow _ (SSetting.L [⟨y, x8⟩]) (SSetting.flat _) rfl (lit_flat w8 [.int .i64 y, .int .i64 x8] 62) (by have := HI.out.2.1; simp; omega) (by have := H8.out.1.fr.lt; simp at this ⊢; omega) ?_
                intro v9 w9 o9 g9
                have hown := H8.out.1.ow.ownU
                have F9 := (H8.out.1.alloc _).grF (Nat.le_refl _) g9 hown
                have o9 := o9.mapS
                have I9 := (H8.out.1.alloc _).push (Nat.le_refl _) (fun h => by simp at h) g9 hown o9
                obtain ⟨va9, vc9, e9⟩ := o9.row.form
                generalize (SSetting.L (L ++ [⟨y, x8⟩])).length = n9 at e9
                subst e9
                have c39 := F9.c3
                have f39 := F9.fr 3
                have H9 : Hid _ := And.intro I9 F9
                clear o9 g9 hown F9 I9
                refine hK _ _ (fun _ => H9.out.2.c3) ?_
                clear hK K
                refine anyZ_take (i := 16) (v := .pointer (some ⟨fb, 3, none⟩)) rfl (by kernel_rfl) (by kernel_rfl) (by kernel_rfl) (by decide) (by kernel_rfl) (fun _ _ _ h => h) (Or.inl ⟨by rfl, fun u _ => by go_simp⟩) H9.out.2.c3 ?_
                refine anyZ_one (i := 17) (by kernel_rfl) rfl (fun K hK => ?_)
                go_simp
                refine hK _ _ (fun h => absurd rfl h) ?_
                clear hK K
                refine anyZ_done (by kernel_rfl) ?_
                go_wp2
                go_roundw
                case rel => exact ⟨q - 1, by omega, by congr 1; omega, _, _, H9.out.1.mono (by omega), by have := HI.out.2.1; simp; omega⟩
                case measure => simp [intOf]; omega
              · go_simp
                go_at_call 30
                refine (goodU g c xs _ (w7.alloc tabS) (H7.out.1.alloc tabS).dt (by omega)).mono ?_
                rintro e w8 ⟨x8, rfl, d8, g8⟩
                have I8 := (H7.out.1.alloc tabS).draw d8 g8
                have y8 := HY.out.1 w8 _ (blk_drawnT (heap_alloc_new w7 tabS) g8 (by have h1 := H7.out.1.gl; have h2 := H7.out.1.gr.size; omega))
                have H8 : Hid _ := And.intro I8 True.intro
                clear I8 d8 g8
                refine hK _ _ (fun _ => H8.out.1.fr.c3) ?_
                clear hK K
                refine anyZ_one (i := 10) (by kernel_rfl) rfl (fun K hK => ?_)
                go_simp
                refine hK _ _ (fun _ => H8.out.1.fr.c3) ?_
                clear hK K
                refine anyZ_take (i := 13) (v := .agg #[.int .i64 y, .int .i64 x8]) rfl (by kernel_rfl) (by kernel_rfl) (by kernel_rfl) (by decide) (by kernel_rfl) (fun _ _ _ h => h) (Or.inl ⟨by rfl, fun u _ => by go_simp⟩) H8.out.1.fr.c3 ?_
                refine anyZ_one (i := 14) (by kernel_rfl) rfl (fun K hK => ?_)
                go_simp
                refine hK _ _ (fun _ => (H8.out.1.alloc (.cells #[.int .i64 y, .int .i64 x8] 62)).fr.c3) ?_
                clear hK K
                refine anyZ_one (i := 15) (by kernel_rfl) rfl (fun K hK => ?_)
                refine step_append_flat rfl _ _ 24 62 Tryd.underlying24 _ 2 16 infoSetting rfl (by decide) (by decide) rfl (fb + 1) (.slice sa nz sc) (SSetting.L L) (SSetting.flat _) rfl (H8.out.1.alloc _).ow _ (SSetting.L [⟨y, x8⟩]) (SSetting.flat _) rfl (lit_flat w8 [.int .i64 y, .int .i64 x8] 62) (by have := HI.out.2.1; simp; omega) (by have := H8.out.1.fr.lt; simp at this ⊢; omega) ?_
                intro v9 w9 o9 g9
                have hown := H8.out.1.ow.ownU
                have F9 := (H8.out.1.alloc _).grF (Nat.le_refl _) g9 hown
                have o9 := o9.mapS
                have I9 := (H8.out.1.alloc _).push (Nat.le_refl _) (fun h => by simp at h) g9 hown o9
                obtain ⟨va9, vc9, e9⟩ := o9.row.form
                generalize (SSetting.L (L ++ [⟨y, x8⟩])).length = n9 at e9
                subst e9
                have c39 := F9.c3
                have f39 := F9.fr 3
                have H9 : Hid _ := And.intro I9 F9
                clear o9 g9 hown F9 I9
                refine hK _ _ (fun _ => H9.out.2.c3) ?_
                clear hK K
                refine anyZ_take (i := 16) (v := .pointer (some ⟨fb, 3, none⟩)) rfl (by kernel_rfl) (by kernel_rfl) (by kernel_rfl) (by decide) (by kernel_rfl) (fun _ _ _ h => h) (Or.inl ⟨by rfl, fun u _ => by go_simp⟩) H9.out.2.c3 ?_
                refine anyZ_one (i := 17) (by kernel_rfl) rfl (fun K hK => ?_)
                go_simp
                refine hK _ _ (fun h => absurd rfl h) ?_
                clear hK K
                refine anyZ_done (by kernel_rfl) ?_
                go_wp2
                go_roundw
                case rel => exact ⟨q - 1, by omega, by congr 1; omega, _, _, H9.out.1.mono (by omega), by have := HI.out.2.1; simp; omega⟩
                case measure => simp [intOf]; omega
            · go_simp
              go_at_call 30
              refine (goodU g c xs _ w7 H7.out.1.dt (by omega)).mono ?_
              rintro e w8 ⟨x8, rfl, d8, g8⟩
              have I8 := H7.out.1.draw d8 g8
              have y8t : (w8.alloc (.cells #[.int .i64 1, .int .i64 6, .int .i64 7, .int .i64 33] 3)).cell? ⟨w8.heap.size, j.toNat, none⟩ = some (.int .i64 y) := HY.out.1 _ _ (heap_alloc_new w8 tabS)
              have H8 : Hid _ := And.intro I8 True.intro
              clear I8 d8 g8
              refine hK _ _ (fun _ => H8.out.1.fr.c3) ?_
              clear hK K
              refine anyZ_one (i := 2) (by kernel_rfl) rfl (fun K hK => ?_)
              go_simp
              refine hK _ _ (fun _ => (H8.out.1.alloc tabS).fr.c3) ?_
              clear hK K
              refine anyZ_take (i := 9) (v := .pointer (some ⟨w8.heap.size, j.toNat, none⟩)) rfl (by kernel_rfl) (by kernel_rfl) (by kernel_rfl) (by decide) (by kernel_rfl) (fun _ _ _ h => h) (Or.inl ⟨by rfl, fun u _ => by go_simp⟩) (H8.out.1.alloc tabS).fr.c3 ?_
              refine anyZ_one (i := 10) (by kernel_rfl) rfl (fun K hK => ?_)
              go_simp
              refine hK _ _ (fun _ => (H8.out.1.alloc tabS).fr.c3) ?_
              clear hK K
              refine anyZ_take (i := 13) (v := .agg #[.int .i64 y, .int .i64 x8]) rfl (by kernel_rfl) (by kernel_rfl) (by kernel_rfl) (by decide) (by kernel_rfl) (fun _ _ _ h => h) (Or.inl ⟨by rfl, fun u _ => by go_simp⟩) (H8.out.1.alloc tabS).fr.c3 ?_
              refine anyZ_one (i := 14) (by kernel_rfl) rfl (fun K hK => ?_)
              go_simp
              refine hK _ _ (fun _ => ((H8.out.1.alloc tabS).alloc (.cells #[.int .i64 y, .int .i64 x8] 62)).fr.c3) ?_
              clear hK K
              refine anyZ_one (i := 15) (by kernel_rfl) rfl (fun K hK => ?_)
              refine step_append_flat rfl _ _ 24 62 Tryd.underlying24 _ 2 16 infoSetting rfl (by decide) (by decide) rfl (fb + 1) (.slice sa nz sc) (SSetting.L L) (SSetting.flat _) rfl ((H8.out.1.alloc tabS).alloc _).ow _ (SSetting.L [⟨y, x8⟩]) (SSetting.flat _) rfl (lit_flat2 w8 tabS [.int .i64 y, .int .i64 x8] 62) (by have := HI.out.2.1; simp; omega) (by have := (H8.out.1.alloc tabS).fr.lt; simp at this ⊢; omega) ?_
              intro v9 w9 o9 g9
              have hown := (H8.out.1.alloc tabS).ow.ownU
              have F9 := ((H8.out.1.alloc tabS).alloc _).grF (Nat.le_refl _) g9 hown
              have o9 := o9.mapS
              have I9 := ((H8.out.1.alloc tabS).alloc _).push (Nat.le_refl _) (fun h => by simp at h) g9 hown o9
              obtain ⟨va9, vc9, e9⟩ := o9.row.form
              generalize (SSetting.L (L ++ [⟨y, x8⟩])).length = n9 at e9
              subst e9
              have c39 := F9.c3
              have f39 := F9.fr 3
              have H9 : Hid _ := And.intro I9 F9
              clear o9 g9 hown F9 I9
              refine hK _ _ (fun _ => H9.out.2.c3) ?_
              clear hK K
              refine anyZ_take (i := 16) (v := .pointer (some ⟨fb, 3, none⟩)) rfl (by kernel_rfl) (by kernel_rfl) (by kernel_rfl) (by decide) (by kernel_rfl) (fun _ _ _ h => h) (Or.inl ⟨by rfl, fun u _ => by go_simp⟩) H9.out.2.c3 ?_
              refine anyZ_one (i := 17) (by kernel_rfl) rfl (fun K hK => ?_)
              go_simp
              refine hK _ _ (fun h => absurd rfl h) ?_
              clear hK K
              refine anyZ_done (by kernel_rfl) ?_
              go_wp2
              go_roundw
              case rel => exact ⟨q - 1, by omega, by congr 1; omega, _, _, H9.out.1.mono (by omega), by have := HI.out.2.1; simp; omega⟩
              case measure => simp [intOf]; omega
        · obtain rfl : q = 0 := by omega
          have HI : Hid _ := And.intro I hL
          clear I hL
          go_wp2
          go_meet
          exact ⟨4, 0, _, [], _, L, HI.out.1.mono (by decide), by decide, by have := HI.out.2; omega, Or.inl rfl⟩
    · by_cases h7 : k = 7
      · subst h7
        go_wp2_with fail
        go_at_call 30
        refine (goodU g c xs _ w3 H2.out.1.dt (by decide)).mono ?_
        rintro e w4 ⟨a, rfl, d4, g4⟩
        have I4 := H2.out.1.draw d4 g4
        have c1 := I4.fr.c1
        have f1 := I4.fr.fr 1
        have H4 : Hid _ := And.intro I4 True.intro
        clear I4 d4 g4
        go_wp2
        go_meet
        exact ⟨7, a, _, [], _, [], (H4.out.1.setA a).mono (by decide), by decide, by decide, Or.inl rfl⟩
      · by_cases h15 : k = 15
        · subst h15
          go_wp2_with fail
          go_at_call 30
          refine (goodU g c xs _ w3 H2.out.1.dt (by decide)).mono ?_
          rintro e w4 ⟨a, rfl, d4, g4⟩
          have I4 := H2.out.1.draw d4 g4
          have c1 := I4.fr.c1
          have f1 := I4.fr.fr 1
          have H4 : Hid _ := And.intro (I4.setA a) True.intro
          clear I4 d4 g4
          go_wp2_with fail
          go_at_call 31
          refine (nextT g c xs _ 6 _ H4.out.1.dt (by decide) (by decide) (by decide)).mono ?_
          rintro e w5 ⟨n, rfl, n0, n1, d5, g5⟩
          obtain ⟨m, rfl⟩ := Int.eq_ofNat_of_zero_le n0
          have H5 : Hid _ := And.intro (H4.out.1.draw d5 g5) True.intro
          clear d5 g5
          go_wp2_with fail
          go_at_call 32
          refine (textU g c xs _ m _ H5.out.1.dt (by decide) (by omega)).mono ?_
          rintro e w6 ⟨t, rfl, ht, d6, g6⟩
          have I6 := H5.out.1.draw d6 g6
          obtain ⟨C, Wc, hcv, r7, b7, z7⟩ := convU w6 ((⟨#[117, 61]⟩ : ByteArray) ++ t) (by rw [ByteArray.size_append, ht]; have : (⟨#[117, 61]⟩ : ByteArray).size = 2 := rfl; omega)
          have hs7 : ((⟨#[117, 61]⟩ : ByteArray) ++ t).size = 2 + m := by rw [ByteArray.size_append, ht]; rfl
          rw [hs7] at hcv r7
          have I7 := I6.below b7
          have hl7 : (txU ((⟨#[117, 61]⟩ : ByteArray) ++ t)).length ≤ 100 := by rw [txU_length, ByteArray.size_append, ht]; have : (⟨#[117, 61]⟩ : ByteArray).size = 2 := rfl; omega
          have c2 := I7.fr.c2
          have f2 := I7.fr.fr 2
          have H7 : Hid _ := And.intro (I7.setD _ _ r7 (txU_bytes _) (fun _ j hj => by have e := Option.some.inj hj; have q := I6.gr.size; simp only at e; omega)) hl7
          clear I6 I7 d6 g6 r7 b7 z7 hl7
          go_wp2
          go_meet
          exact ⟨15, a, _, _, _, [], H7.out.1.mono (q := 3000) (by decide), H7.out.2, by decide, Or.inr ⟨rfl, rfl⟩⟩
        · have b4 : (k == 4) = false := by simp [h4]
          have b7 : (k == 7) = false := by simp [h7]
          have b15 : (k == 15) = false := by simp [h15]
          go_wp2_with fail
          go_at_call 34
          refine (sizeU g c xs _ 60 w3 H2.out.1.dt (by decide) (by decide)).mono ?_
          rintro e w4 ⟨n, rfl, n0, n1, hw4⟩
          subst w4
          go_wp2_with fail
          go_at_call 31
          refine (nextT g c xs _ (n + 1) w3 H2.out.1.dt (by decide) (by omega) (by omega)).mono ?_
          rintro e w5 ⟨m, rfl, m0, m1, d5, g5⟩
          have H5 : Hid _ := And.intro (H2.out.1.draw d5 g5) True.intro
          clear d5 g5
          go_wp2_with fail
          go_at_call 33
          refine (bytesU g c xs _ m w5 H5.out.1.dt (by decide) m0 (by omega)).mono ?_
          rintro e w6 ⟨ao, cap, ys, rfl, r6, l6, b6, d6, g6, p6⟩
          have I6 := H5.out.1.draw d6 g6
          have c2 := I6.fr.c2
          have f2 := I6.fr.fr 2
          have H6 : Hid _ := And.intro I6 (And.intro r6 (And.intro b6 (And.intro l6 p6)))
          clear I6 d6 g6 r6 b6 l6 p6
          go_wp2
          go_meet
          exact ⟨k, 0, _, ys, _, [], (H6.out.1.setD _ ys H6.out.2.1 H6.out.2.2.1 (fun _ j hj => Nat.le_trans H5.out.1.gr.size (H6.out.2.2.2.2 j hj))).mono (by decide), by have := H6.out.2.2.2.1; omega, by decide, Or.inr ⟨rfl, rfl⟩⟩
  case rest =>
    obtain ⟨k, a, d, ys, s, L, I, hy, hL, hap⟩ := hcut
    obtain ⟨⟨e1, e2, e3, rfl⟩, t1, t2, t3, rfl⟩ := I.ds
    have H5 : Hid _ := And.intro I (And.intro hy (And.intro hL hap))
    clear I hy hL hap
    go_wp2_with fail
    go_at_call 31
    refine (nextT g c xs _ 40 wc H5.out.1.dt (by decide) (by decide) (by decide)).mono ?_
    rintro e w6 ⟨j, rfl, j0, j1, d6, g6⟩
    have H6 : Hid _ := And.intro (H5.out.1.draw d6 g6) True.intro
    clear d6 g6
    go_upto_block 3 with fail
    go_cut [] from 65 to 104 (fun wx => ∃ (k a : Int) (d : Value) (ys : List Int) (s : Value) (L : List SSetting), DrI W g fb W.heap.size c xs 9000 wx k a d ys s L ∧ ys.length ≤ 16385 ∧ L.length ≤ 20)
    case first =>
      by_cases h0 : j = 0
      · subst h0
        go_wp2_with fail
        go_at_call 35
        refine (numberU g c xs _ w6 H6.out.1.dt (by decide)).mono ?_
        rintro e w7 ⟨x, rfl, d7, g7⟩
        have I7 := H6.out.1.draw d7 g7
        have c1 := I7.fr.c0
        have f1 := I7.fr.fr 0
        have H7 : Hid _ := And.intro I7 True.intro
        clear I7 d7 g7
        go_wp2
        go_meet
        exact ⟨x, a, _, ys, _, L, (H7.out.1.setK x).mono (by decide), by have := H5.out.2.1; omega, by have := H5.out.2.2.1; omega⟩
      · by_cases h1 : j = 1
        · subst h1
          go_wp2_with fail
          go_at_call 35
          refine (numberU g c xs _ w6 H6.out.1.dt (by decide)).mono ?_
          rintro e w7 ⟨x, rfl, d7, g7⟩
          have I7 := H6.out.1.draw d7 g7
          have c1 := I7.fr.c1
          have f1 := I7.fr.fr 1
          have H7 : Hid _ := And.intro I7 True.intro
          clear I7 d7 g7
          go_wp2
          go_meet
          exact ⟨k, x, _, ys, _, L, (H7.out.1.setA x).mono (by decide), by have := H5.out.2.1; omega, by have := H5.out.2.2.1; omega⟩
        · by_cases h2 : j = 2
          · subst h2
            go_wp2_with fail
            go_at_call 31
            refine (nextT g c xs _ 5 (w6.alloc tabD) (H6.out.1.alloc _).dt (by decide) (by decide) (by decide)).mono ?_
            rintro e w7 ⟨i, rfl, i0, i1, d7, g7⟩
            have t7 : w7.heap[w6.heap.size]? = some tabD := blk_drawnT (heap_alloc_new w6 _) g7 (by have h1 := H6.out.1.gl; have h2 := H6.out.1.gr.size; omega)
            obtain ⟨n, hn, hn2⟩ := tabD_at t7 i i0 i1
            have H7 : Hid _ := And.intro ((H6.out.1.alloc _).draw d7 g7) hn2
            clear d7 g7 t7 hn2
            obtain ⟨i9, hi, hz0, hz1, hz2⟩ := info_parts infoU8
            go_wp2_with (at_make; refine wpList_make_full _ rfl _ _ 22 rfl w7.heap.size 5 i9 (.int .u8 0) 1 Tryd.underlying22 hi hz0 hz1 .i64 .i64 (n : Int) (n : Int) n rfl rfl rfl rfl (by rw [hz2]; have := H7.out.2; omega) (by unfold maxLen; have := H7.out.2; omega) (Nat.le_refl _) ?_; intro w8 hown hg; have b8 : Below w7.heap.size w7 w8 := (Below.refl _ _).grown hg (Nat.le_refl _) (fun k hk => by cases hk); have I8 := H7.out.1.below b8; have r8 : Row w8 .u8 _ (List.replicate n 0) := row_of_owns (made_zero hown); have c2 := I8.fr.c2; have f2 := I8.fr.fr 2; have H8 : Hid _ := And.intro I8 (And.intro r8 (fun j hj => (hown.lt j hj).1)); clear hown hg b8 I8 r8)
            go_wp2
            go_meet
            exact ⟨k, a, _, _, _, L, (H8.out.1.setD _ _ H8.out.2.1 (fun y hy => by obtain ⟨_, rfl⟩ := List.mem_replicate.1 hy; omega) (fun _ j hj => Nat.le_trans H7.out.1.gr.size (H8.out.2.2 j hj))).mono (by decide), by rw [List.length_replicate]; exact H7.out.2, by have := H5.out.2.2.1; omega⟩
          · by_cases h3 : j = 3
            · subst h3
              go_wp2_with fail
              obtain ⟨bs, hb, hdb, ow6, hbz⟩ : ∃ bs, fb + 1 ≤ bs ∧ (0 < ys.length → ∀ b off n cp, (Value.slice e1 e2 e3) = .slice (some ⟨b, off, none⟩) n cp → b < bs) ∧ GOwns 62 2 w6 bs (.slice t1 t2 t3) (SSetting.L L) ∧ bs ≤ w6.heap.size := by
                have hfl := H6.out.1.fr.lt
                rcases H5.out.2.2.2 with rfl | ⟨es, rfl⟩
                · exact ⟨fb + 1, Nat.le_refl _, fun h => by simp at h, H6.out.1.ow, hfl⟩
                · refine ⟨w6.heap.size, hfl, fun h0 b off n cp e => ?_, by rw [es]; exact GOwns.nil _ _ _ _, Nat.le_refl _⟩
                  obtain ⟨b', off', cap', e', hbl, _⟩ := H6.out.1.rw.at h0
                  rw [e] at e'
                  cases e'
                  exact hbl
              have HB : Hid _ := And.intro hb (And.intro hdb (And.intro ow6 hbz))
              clear hb hdb ow6 hbz
              go_loopg [] 20 (fun q wr => ∃ (s : Value) (L : List SSetting), 20 - L.length ≤ q ∧ L.length ≤ 17 ∧ DrI W g fb W.heap.size c xs (4000 + 3 * (L.length : Int)) wr k a (.slice e1 e2 e3) ys s L ∧ GOwns 62 2 wr bs s (SSetting.L L) ∧ bs ≤ wr.heap.size)
              case atStart => exact ⟨_, L, by have := H5.out.2.2.1; omega, by have := H5.out.2.2.1; omega, H6.out.1.mono (by omega), HB.out.2.2.1, HB.out.2.2.2⟩
              case round =>
                obtain ⟨s, L, hqL, hL, I, ow, hbz⟩ := hrel
                have I1 := I.drew
                obtain ⟨sa, sc, es⟩ := I.ow.row.form
                obtain ⟨nz, enz⟩ : ∃ nz, nz = (SSetting.L L).length := ⟨_, rfl⟩
                rw [← enz] at es
                subst es
                have hnz : nz = L.length := by simpa [SSetting.L] using enz
                have hnz17 : nz ≤ 17 := by omega
                have c3 := I.fr.c3
                have c3d : wr.drew.cell? ⟨fb, 3, none⟩ = some (.slice sa nz sc) := c3
                have HI : Hid _ := And.intro I1 (And.intro hL (And.intro hnz (And.intro (show GOwns 62 2 wr.drew bs (.slice sa nz sc) (SSetting.L L) from ow) (And.intro (show bs ≤ wr.drew.heap.size from hbz) hqL))))
                clear I I1 hL enz hnz ow hbz hqL
                go_wp2_with fail
                go_region_with (go_at_call 31; refine (nextT g c xs _ 2 wr.drew HI.out.1.dt (by have := HI.out.2.1; omega) (by decide) (by decide)).mono ?_; rintro e w7 ⟨b, rfl, b0, b1, d7, g7⟩; have I7 := HI.out.1.draw d7 g7; have c37 := I7.fr.c3; have f37 := I7.fr.fr 3; have H7 : Hid _ := And.intro I7 (And.intro (HI.out.2.2.2.1.stepU g7 (by have h1 := HI.out.1.gl; have h2 := HI.out.1.rl; have h3 := HI.out.1.fl; have h4 := HB.out.1; omega)) (Nat.le_trans HI.out.2.2.2.2.1 g7.size)); clear I7 d7 g7)
                all_goals (
                  have hwb : IntKind.i64.wrap (16 + b) = 16 + b := by rw [IntKind.wrap_i64]; omega
                  by_cases hlt : (nz : Int) < 16 + b
                  · have q1 : GOwns 62 2 (w7.alloc (.cells #[.int .i64 (100 + (nz : Int)), .int .i64 0] 62)) bs (.slice sa nz sc) (SSetting.L L) := H7.out.2.1.below ((Below.refl _ _).alloc (Nat.le_refl _) _)
                    have q2 : GRow 2 (w7.alloc (.cells #[.int .i64 (100 + (nz : Int)), .int .i64 0] 62)) (.slice (some ⟨w7.heap.size, 0, none⟩) 1 1) (SSetting.L [⟨100 + (nz : Int), 0⟩]) := lit_flat w7 [.int .i64 (100 + (nz : Int)), .int .i64 0] 62
                    have q3 : (SSetting.L L).length + (SSetting.L [⟨100 + (nz : Int), 0⟩]).length ≤ 1099511627776 := by have := HI.out.2.1; simp; omega
                    have q4 : bs ≤ (w7.alloc (.cells #[.int .i64 (100 + (nz : Int)), .int .i64 0] 62)).heap.size := by have := H7.out.2.2; simp; omega
                    have HQ : Hid _ := And.intro q1 (And.intro q2 (And.intro q3 q4))
                    clear q1 q2 q3 q4
                    go_wp2_with (at_builtin; refine wpList_append_flat rfl _ _ 24 62 Tryd.underlying24 _ 2 16 infoSetting rfl (by decide) (by decide) rfl bs (.slice sa nz sc) (SSetting.L L) (SSetting.flat _) rfl HQ.out.1 _ (SSetting.L [⟨100 + (nz : Int), 0⟩]) (SSetting.flat _) rfl HQ.out.2.1 HQ.out.2.2.1 HQ.out.2.2.2 ?_; intro v8 w8 o8 g8; have hown := H7.out.2.1.ownU; have F8 := (H7.out.1.alloc _).grF HB.out.1 g8 hown; have o9 : GOwns 62 2 w8 bs v8 (SSetting.L (L ++ [⟨100 + (nz : Int), 0⟩])) := (by rw [SSetting.L, List.map_append]; exact o8); have I9 := (H7.out.1.alloc _).push HB.out.1 HB.out.2.1 g8 hown o9; obtain ⟨va8, vc8, e8⟩ := o9.row.form; obtain ⟨n8, en8⟩ : ∃ n8, n8 = (SSetting.L (L ++ [⟨100 + (nz : Int), 0⟩])).length := ⟨_, rfl⟩; rw [← en8] at e8; clear en8; subst e8; have c38 := F8.c3; have f38 := F8.fr 3; have H9 : Hid _ := And.intro I9 (And.intro o9 (show bs ≤ w8.heap.size from Nat.le_trans HQ.out.2.2.2 g8.size)); clear o8 g8 hown F8 o9 I9)
                    go_wp2
                    go_roundg (20 - (L.length + 1))
                    case measure => have := HI.out.2.1; have := HI.out.2.2.2.2.2; omega
                    case rel =>
                      refine ⟨_, L ++ [⟨100 + (nz : Int), 0⟩], by simp, by have := HI.out.2.2.1; simp; omega, H9.out.1.mono (by simp; omega), ?_, by simpa [World.setCell] using H9.out.2.2⟩
                      exact H9.out.2.1.stepU (grown_setCell w8 fb 3 _) (by have := HB.out.1; omega)
                  · go_wp2
                    go_meet
                    exact ⟨k, a, _, ys, _, L, H7.out.1.mono (by have := HI.out.2.1; omega), by have := H5.out.2.1; omega, by have := HI.out.2.1; omega⟩)
            · have b0 : (j == 0) = false := by simp [h0]
              have b1 : (j == 1) = false := by simp [h1]
              have b2 : (j == 2) = false := by simp [h2]
              have b3 : (j == 3) = false := by simp [h3]
              go_wp2
              go_meet
              exact ⟨k, a, _, ys, _, L, H6.out.1.mono (by decide), by have := H5.out.2.1; omega, by have := H5.out.2.2.1; omega⟩
    case rest =>
      obtain ⟨k, a, d, ys, s, L, I, hy, hL⟩ := hcut
      obtain ⟨⟨d1, d2, d3, rfl⟩, s1, s2, s3, rfl⟩ := I.ds
      have f0 := I.fr.c0
      have f1 := I.fr.c1
      have f2 := I.fr.c2
      have f3 := I.fr.c3
      have r0 := I.rs.fr 0
      have r1 := I.rs.fr 1
      have r2 := I.rs.fr 2
      have r3 := I.rs.fr 3
      have q0 := I.rs.c0
      have q1 := I.rs.c1
      have q2 := I.rs.c2
      have q3 := I.rs.c3
      have H8 : Hid _ := And.intro I (And.intro hy hL)
      clear I hy hL
      go_wp2
      try simp only [Exit.inBlock, Exit.then]
      have I8 := H8.out.1
      have hf8 := I8.fl
      have N0 : (∃ ao n cp, (Value.slice none 0 0) = .slice ao n cp) ∧ ∃ ao n cp, (Value.slice none 0 0) = .slice ao n cp := ⟨⟨_, _, _, rfl⟩, _, _, _, rfl⟩
      have B1 : fB (wc.setCell ⟨W.heap.size, 0, none⟩ (.int .i64 k)) W.heap.size k 0 (.slice none 0 0) (.slice none 0 0) := bk_set I8.rs 0 _
      have B2 := B1.set1 a
      have B3 := B2.set2 (.slice d1 d2 d3)
      have B4 := B3.set3 (.slice s1 s2 s3)
      refine bodyPost_ret (v := .agg #[.int .i64 k, .int .i64 a, .slice d1 d2 d3, .slice s1 s2 s3]) ?_ rfl ?_
      · refine results_cell_row (t := 26) rfl _ _ W.heap.size _ (fr := (0, 0)) _ rfl ?_ Tryd.underlying26 rfl infoHF
        exact B4
      · have R4 := row_fB (i := 3) (x := .slice s1 s2 s3) B3 ⟨⟨_, _, _, rfl⟩, _, _, _, rfl⟩ (row_fB (i := 2) (x := .slice d1 d2 d3) B2 N0 (row_fB (i := 1) (x := .int .i64 a) B1 N0 (row_fB (i := 0) (x := .int .i64 k) I8.rs N0 I8.rw)))
        have O4 := (((I8.ow.stepU (grown_setCell wc W.heap.size 0 (.int .i64 k)) (by omega)).stepU (grown_setCell _ W.heap.size 1 (.int .i64 a)) (by omega)).stepU (grown_setCell _ W.heap.size 2 (.slice d1 d2 d3)) (by omega)).stepU (grown_setCell _ W.heap.size 3 (.slice s1 s2 s3)) (by omega)
        exact ⟨⟨k, a, ys, L⟩, _, _, rfl, R4, I8.bs, H8.out.2.1, O4.mono (by have := I8.fl; omega), H8.out.2.2, grownT_set (grownT_set (grownT_set (grownT_set I8.gr (Nat.le_refl _)) (Nat.le_refl _)) (Nat.le_refl _)) (Nat.le_refl _), I8.dl⟩
end Go.Proofs.YtdommkpeilmdnaaDoor

namespace Go.Proofs.YtdommkpeilmdnaaDoor
open Go.RowKit
set_option linter.unusedVariables false

theorem fnHyper_walk (v : Value) (xs : List Int) (hl : xs.length ≤ maxLen) (hwf : ∀ x ∈ xs, (Lit.int .u8 x).wf = true) (w : World) (hrow : Row w .u8 v xs) (ht : Tab w) (he : errT w) :
    Calls Tryd.prog 3 #[v] w fun e w' => e = .returned (.bool true) ∧ Below w.heap.size w w' := by
  have hm : xs.length ≤ 9223372036854775807 := by unfold maxLen at hl; omega
  by_cases h20 : 1048576 < xs.length
  · obtain ⟨ao, cap, rfl⟩ := hrow.form
    exact hyper_huge ao _ cap w h20 hm
  · exact hyper_law (fun g c xs W h => drawFr g c xs W h) v xs w hrow (bytes_of_wf hwf) (by omega) ht he
end Go.Proofs.YtdommkpeilmdnaaDoor

namespace Go.Proofs.YtdommkpeilmdnaaDoor.fnHyper
open Go.ChangeShapes Go.WideShapes Go.ChangeAt Go.RowKit
set_option linter.unusedVariables false

theorem own : ownKnob Tryd.prog.godebug = none := by kernel_rfl
theorem laidOut : laidOutB Tryd.prog = true := by kernel_rfl
theorem cells_b : Tryd.prog.cellsOf 5 = 1 := by kernel_rfl
theorem gTab : Tryd.prog.globalNamed "loop.example/g00012/impl.varFormLengths" = some 1 := by kernel_rfl
theorem gTabType : (Tryd.prog.globals[1]?).map (·.type) = some 105 := by kernel_rfl
theorem cellsArr : Tryd.prog.cellsOf 105 = 4 := by kernel_rfl
theorem cellsInt : Tryd.prog.cellsOf 3 = 1 := by kernel_rfl
theorem et : Tryd.prog.globalNamed "errors.errorType" = some 0 := by kernel_rfl
theorem rt : (Tryd.prog.cutTypes.find? (·.1 == "internal/reflectlite.rtype")).map (·.2) = some 107 := by kernel_rfl
theorem oneRow : ((List.range (Tryd.prog.types.size)).filter fun t => Tryd.prog.rowNamed t [101, 114, 114, 111, 114]) = [50] := by kernel_rfl
theorem laidMet_tail {P : Program} {W : World} {x : String × DataW Unit} {l : List (String × DataW Unit)} (h : laidMet P (x :: l) W) : laidMet P l W := by
  obtain ⟨n, d⟩ := x
  obtain ⟨ps, ⟨g', t', cs, fuel, p, q, hg', ht', hvar, hd, hr, hps⟩, hnd, hall⟩ := h
  subst hps
  exact ⟨q, hr, (List.nodup_append.1 hnd).2.1, fun b off hm => hall b off (List.mem_append_right _ hm)⟩
theorem table {W : World} (h : laidMetH Tryd.prog Rows.fnHyperRow.laid W) : Tab W ∧ errT W := by
  have h' : laidMet Tryd.prog [("loop.example/g00012/impl.varFormLengths", Lib.tabData .i64 [1, 2, 4, 8])] W ∧ handlesMet Tryd.prog [("errors.errorType", Rows.laid_errors_errorType)] W := h
  have t : Lib.TabIs Tryd.prog W "loop.example/g00012/impl.varFormLengths" .i64 [1, 2, 4, 8] :=
    Lib.tabIs_of_head gTab gTabType Tryd.underlying105 Tryd.underlying3 cellsInt cellsArr h'.1
  refine ⟨⟨t.cell gTab 0 (by decide), t.cell gTab 1 (by decide), t.cell gTab 2 (by decide), t.cell gTab 3 (by decide)⟩, ?_⟩
  obtain ⟨name, u, ty, e1, e2, e3, e4, e5⟩ := h'.2 _ (List.mem_singleton.2 rfl)
  have en : name = [101, 114, 114, 111, 114] := (Option.some.inj e1).symm
  subst en
  obtain rfl := Option.some.inj (rt.symm.trans e2)
  have hm : ty ∈ (List.range (Tryd.prog.types.size)).filter fun t => Tryd.prog.rowNamed t [101, 114, 114, 111, 114] := List.mem_filter.2 ⟨List.mem_range.2 e3, e4⟩
  rw [oneRow] at hm
  obtain rfl := List.mem_singleton.1 hm
  have hh : typeHandle Tryd.prog 50 = .pointer (some ⟨2, 50, none⟩) := by kernel_rfl
  rw [hh] at e5
  unfold errT
  simpa using World.var?_cell et e5 0
set_option maxRecDepth 20000 in
theorem contract (H : Type) (enc : TypeId × Value → H) (W : World) (base : Nat) (args : Array Value) (ds gs : List (DataW H)) (before : List MemPlace)
    (hval : ∀ (j : Nat) t v, Tryd.f3.params[j]? = some t → args[j]? = some v → Value.okWide Tryd.prog W .any base t v)
    (hW : DataW.Whole enc Tryd.prog Tryd.f3.params.toList Rows.fnHyperSpec.vars false W args.toList ds gs before) (hL : laidMetH Tryd.prog Rows.fnHyperRow.laid W) :
    Calls Tryd.prog 3 args W fun e W' => ∃ v, e = .returned v ∧ Rows.fnHyperSpec.post enc Tryd.prog Tryd.f3 false true false false W args v W' := by
  have hW' := hW
  obtain ⟨p, q, hA0, hV, rfl, hfz, hnd⟩ := hW
  have hA : DataW.TrodAll enc Tryd.prog W 0 (fun _ => true) true Tryd.f3.params.toList args.toList ds p := hA0
  rw [Tryd.params3] at hA hval
  obtain ⟨v0, vs0, d0, ds0, p0, q0, hargs, rfl, rfl, h0, r0⟩ := trodAll_cons hA
  obtain ⟨rfl, rfl, rfl⟩ := trodAll_nil r0
  obtain rfl : args = #[v0] := by cases args; simp_all
  obtain ⟨g, t, cs, fuel, dg, pg, rfl, -⟩ := trodVars_one hV
  obtain ⟨xs0, row0, len0, wf0⟩ := open_row Tryd.underlying22 Tryd.underlying5 cells_b (hval 0 22 v0 rfl rfl) h0
  refine (fnHyper_walk v0 xs0 len0 wf0 W row0 (table hL).1 (table hL).2).mono fun e W' ⟨he, hb⟩ => ?_
  subst he
  exact ⟨_, rfl, law_post laidOut (by kernel_rfl) (by kernel_rfl) (by kernel_rfl) Tryd.underlying4 hW' rfl hb⟩

theorem laid_met (os : Os) : laidMetH Tryd.prog Rows.fnHyperRow.laid (({ (World.holding Tryd.prog os ⟨#[], #[], []⟩) with heap := ((World.holding Tryd.prog os ⟨#[], #[], []⟩).heap.modify 0 fun | .cells _ t frozen => .cells #[.iface 107 (.agg #[.pointer (some ⟨2, 50, none⟩)])] t frozen | o => o).modify 1 fun | .cells _ t frozen => .cells #[.int .i64 1, .int .i64 2, .int .i64 4, .int .i64 8] t frozen | o => o } : World).forCall (fun _ _ => 0) ⟨#[], #[.slice none 0 0], []⟩).memory :=
  laidMetH_of_parts (laidMet_of_run' 8 (by kernel_rfl) (by kernel_rfl)) (by kernel_rfl)
theorem reads (os : Os) {H : Type} (enc : TypeId × Value → H) : ∃ places, DataW.whole enc Tryd.prog (({ (World.holding Tryd.prog os ⟨#[], #[], []⟩) with heap := ((World.holding Tryd.prog os ⟨#[], #[], []⟩).heap.modify 0 fun | .cells _ t frozen => .cells #[.iface 107 (.agg #[.pointer (some ⟨2, 50, none⟩)])] t frozen | o => o).modify 1 fun | .cells _ t frozen => .cells #[.int .i64 1, .int .i64 2, .int .i64 4, .int .i64 8] t frozen | o => o } : World).forCall (fun _ _ => 0) ⟨#[], #[.slice none 0 0], []⟩).memory Tryd.f3.params.toList Rows.fnHyperSpec.vars false #[(.slice none 0 0 : Value)].toList 8 = some ([.nil], [.agg [.lit (.int .i64 1), .lit (.int .i64 2), .lit (.int .i64 4), .lit (.int .i64 8)]], places) :=
  ⟨[.cell 1 0, .cell 1 1, .cell 1 2, .cell 1 3], by kernel_rfl⟩

set_option maxRecDepth 100000 in
theorem lifted (os : Os) (started : os.Started) (H : Type) (enc : TypeId × Value → H) (F : Stop.Interp) :
    ReturnsInHanded {} Tryd.checked os 3 .any ((OpenSpec.ofChange Rows.fnHyperSpec).preRow enc Tryd.prog Tryd.f3 Rows.fnHyperRow.domain false Rows.fnHyperRow.laid) (((OpenSpec.ofChange Rows.fnHyperSpec).at F).post enc Tryd.prog Tryd.f3 false true false false) := by
  obtain ⟨places, hx⟩ := reads os enc
  refine returnsInHanded_of_row (C := Tryd.checked) (s := OpenSpec.ofChange Rows.fnHyperSpec) own started (by kernel_rfl) Tryd.func3
    (witness_row_at (enc := enc) (C := Tryd.checked) false ({ (World.holding Tryd.prog os ⟨#[], #[], []⟩) with heap := ((World.holding Tryd.prog os ⟨#[], #[], []⟩).heap.modify 0 fun | .cells _ t frozen => .cells #[.iface 107 (.agg #[.pointer (some ⟨2, 50, none⟩)])] t frozen | o => o).modify 1 fun | .cells _ t frozen => .cells #[.int .i64 1, .int .i64 2, .int .i64 4, .int .i64 8] t frozen | o => o } : World) #[.slice none 0 0] rfl (by kernel_rfl) (by kernel_rfl) (by kernel_rfl)
      (OpenSpec.preRow_of_cond 8 hx (by kernel_rfl) (fun k hk => by cases hk) (by kernel_rfl) (laid_met os))) ?_
  intro W base args ds gs before hval hW _ _ _ hL _ _
  exact contract H enc W base args ds gs before hval hW hL

theorem said : Rows.FnHyperSaid :=
  OpenClaim.holds_of_cond 3 Tryd.f3 rfl rfl rfl rfl rfl rfl rfl ⟨rfl, rfl, rfl, rfl, rfl⟩ rfl rfl rfl rfl rfl (by kernel_rfl) Tryd.func3 (by kernel_rfl)
    (of_decide_eq_true (by kernel_rfl)) (by unfold Func.isWrapper; first | (rw [if_pos (by decide +kernel)]; kernel_rfl) | (rw [if_neg (by decide +kernel)]; exact ⟨rfl, rfl⟩))
    (fun os started H enc _ F => by rw [OpenClaim.pre_eq_preRow]; exact lifted os started H enc F)

theorem plain (f : FuncId) (fn : Func) (hf : Tryd.pinned.checked.prog.funcNamed "loop.example/g00012/laws.FnHyper" = some f) (hfn : Tryd.pinned.checked.prog.funcs[f]? = some fn) :
    true = Tryd.pinned.checked.prog.looks [] ∧ ∀ (j : Nat) t, fn.params[j]? = some t → Tryd.pinned.checked.prog.wantsStandIn t = false := by
  obtain rfl : f = 3 := Option.some.inj ((show Tryd.prog.funcNamed "loop.example/g00012/laws.FnHyper" = some 3 by kernel_rfl).symm.trans hf) |>.symm
  obtain rfl : fn = Tryd.f3 := (Option.some.inj (Tryd.func3.symm.trans hfn)).symm
  refine ⟨by kernel_rfl, fun j t ht => ?_⟩
  rw [Tryd.params3] at ht
  have hm : t ∈ [22] := by simpa using Array.mem_of_getElem? ht
  have hall : ([22].all fun u => !Tryd.prog.wantsStandIn u) = true := by kernel_rfl
  exact (show Tryd.prog.wantsStandIn t = false by simpa using List.all_eq_true.1 hall t hm)

end Go.Proofs.YtdommkpeilmdnaaDoor.fnHyper

namespace Go.Proofs.YtdommkpeilmdnaaDoor
theorem fnHyper_holds : Rows.FnHyperCardSaid :=
  Claim7.holds_tied_plain_at .later [] _ _ _ _ fnHyper.said (fun _ h => by cases h) (by kernel_rfl) (fun _ h => by cases h) fnHyper_row_tie rfl ⟨rfl, rfl⟩ (by kernel_rfl) rfl fnHyper.plain (by kernel_rfl)
#print axioms fnHyper_holds
end Go.Proofs.YtdommkpeilmdnaaDoor
