import Derived.Test.YtbbiinbjgognjaaDoorRows
import Derived.WalkKit
import Derived.ProofKit
import Derived.OpenShut
import Derived.OpenVars
import Derived.Deep.DeepHandedRow
import Derived.Test.YtbbiinbjgognjaaDoorMem
import Derived.Test.YtbbiinbjgognjaaDoorPeekWalk
import Derived.Test.YtbbiinbjgognjaaDoorPkE
import Derived.Test.YtbbiinbjgognjaaDoorVals
import Derived.Test.YtbbiinbjgognjaaDoorAppRow
import Derived.BigRegion
import Derived.Laws.Rows
import Derived.Deep.RegionWith
import Derived.Deep.CutRange
import Derived.Test.YtbbiinbjgognjaaDoorToBytes
import Derived.Test.YtbbiinbjgognjaaDoorHead8
import Derived.Lib.SlBytesConst
import Derived.Laws.BytesArg
import Derived.Test.YtbbiinbjgognjaaDoorKeys
import Derived.Test.YtbbiinbjgognjaaDoorEqBytes
import Derived.Test.YtbbiinbjgognjaaDoorBlocks
import Derived.BigQuiet
import Derived.Test.YtbbiinbjgognjaaDoorBook
import Derived.Laws.CopyOwn
import Derived.Deep.RegionLaw
import Derived.Laws.StructEq
import Derived.Test.YtbbiinbjgognjaaDoorSrR
import Derived.Test.YtbbiinbjgognjaaDoorMarkBytes
import Derived.Test.YtbbiinbjgognjaaDoorEqHead
import Derived.Test.YtbbiinbjgognjaaDoorMarkHead
namespace Go.Proofs.YtbbiinbjgognjaaDoor
open Go.ChangeShapes Go.WideShapes Go.ChangeAt Go.RowKit

/-- Each parameter's type can be read, and is a row of the table: one closed fact. -/
def typesRowed (P : Program) (ts : List TypeId) : Bool := ts.all fun t => P.readableRec t && decide (t < P.types.size)

theorem below_trodAll {H : Type} {enc : TypeId × Value → H} {P : Program} (hl : laidOutB P = true) {W W' : World} (hb : Below W.heap.size W W') :
    ∀ {ts : List TypeId} {vs : List Value} {ds : List (DataW H)} {ps : List MemPlace}, typesRowed P ts = true → DataW.TrodAll enc P W 0 (fun _ => true) true ts vs ds ps → (∀ x ∈ ps, x.block < W.heap.size) →
      DataW.TrodAll enc P W' 0 (fun b => decide (b < W.heap.size)) true ts vs ds ps
  | [], [], [], _, _, h, _ => h
  | [], _ :: _, _, _, _, h, _ => h.elim
  | [], [], _ :: _, _, _, h, _ => h.elim
  | _ :: _, [], _, _, _, h, _ => h.elim
  | _ :: _, _ :: _, [], _, _, h, _ => h.elim
  | t :: ts, v :: vs, d :: ds, ps, hr, h, hlt => by
    obtain ⟨p, q, h1, h2, rfl⟩ := h
    simp only [typesRowed, List.all_cons, Bool.and_eq_true, decide_eq_true_eq] at hr
    exact ⟨p, q, Below.trod hl hr.1.1 hr.1.2 h1 hb (fun x hx => hlt x (by simp [hx])), below_trodAll hl hb (by simpa [typesRowed] using hr.2) h2 (fun x hx => hlt x (by simp [hx])), rfl⟩

/-- WHAT A LAW's ROW ASKS, out of 'it returned true, and of what was there before nothing has turned'. -/
theorem law_post {H : Type} {enc : TypeId × Value → H} {P : Program} {f : Func} {s : ChangeSpec} {W W' : World} {args : Array Value} {ds gs : List (DataW H)} {before : List MemPlace} {tb : TypeId}
    (hl : laidOutB P = true) (hp : typesRowed P f.params.toList = true) (hv : varsRowed P s.vars = true) (hr : f.resultTypes = #[tb]) (hu : P.underlying tb = some .bool)
    (hW : DataW.Whole enc P f.params.toList s.vars false W args.toList ds gs before)
    (hs : s.fn H (ds ++ gs) = { results := [.lit (.bool true)], args := ds, vars := gs }) (hb : Below W.heap.size W W') :
    s.post enc P f false true false false W args (.bool true) W' := by
  have hW' := hW
  obtain ⟨p, q, hA, hV, rfl, hfz, hnd⟩ := hW
  have hlt : ∀ x ∈ p ++ q, x.block < W.heap.size := fun x hx => hW'.lt x hx
  refine ⟨ds, gs, p ++ q, [], p, q, hW', ?_, ?_, ?_, hb.frame _, fun h => by cases h⟩
  · rw [hs, hr]
    exact trodAll_mk1 (shut_bool hu _)
  · rw [hs]
    exact below_trodAll hl hb hp hA (fun x hx => hlt x (by simp [hx]))
  · rw [hs]
    exact Below.trodVars hl hb hv hV

theorem cell_lt {w : World} {b o : Nat} {u : Value} (h : w.cell? ⟨b, o, none⟩ = some u) : b < w.heap.size := by
  refine Nat.lt_of_not_le (fun hn => ?_)
  have e : w.heap[b]? = none := Array.getElem?_eq_none (by omega)
  simp [World.cell?, e] at h

/-- AN ARGUMENT THAT IS A SLICE OF NUMBERS: it reads as some numbers of its kind. -/
theorem open_row {H : Type} {enc : TypeId × Value → H} {P : Program} {W : World} {r : Reach} {base : Nat} {t e : TypeId} {k : IntKind} {v : Value} {d : DataW H} {p : List MemPlace}
    (ht : P.underlying t = some (.slice e)) (he : P.underlying e = some (.int k)) (hc : P.cellsOf e = 1) (hval : Value.okWide P W r base t v) (h : DataW.Trod enc P W 0 (fun _ => true) true t v d p) :
    ∃ xs : List Int, Row W k v xs ∧ xs.length ≤ maxLen ∧ ∀ x ∈ xs, (Lit.int k x).wf = true := by
  obtain ⟨a0, len, cap, rfl⟩ := okWide_slice ht hval
  obtain ⟨fuel, hf⟩ := h
  rcases open_ints ht he hc hf with ⟨hcs, hx⟩ | ⟨a, len', cap', zs, hcs, _, hl, hm, hz, hx, hcell, hwz⟩
  · have : Value.slice a0 len cap = .slice none 0 0 := by simpa [Value.cells] using hcs
    rw [this]
    exact ⟨[], Or.inl ⟨rfl, none, 0, rfl⟩, by simp, by simp⟩
  · have : Value.slice a0 len cap = .slice (some a) len' cap' := by simpa [Value.cells] using hcs
    rw [this]
    have hzl : zs.length = cap' := by simpa using hz
    have htl : (zs.take len').length = len' := by rw [List.length_take]; omega
    refine ⟨zs.take len', ?_, by rw [htl]; omega, fun x hx => hwz x (List.mem_of_mem_take hx)⟩
    by_cases h0 : len' = 0
    · subst h0
      exact Or.inl ⟨by simp, _, _, rfl⟩
    · obtain ⟨b, off, rfl, hcc⟩ := ints_at hcell (by omega)
      refine Or.inr ⟨b, off, cap', by rw [htl], cell_lt (hcc 0 (by omega)), by rw [htl]; exact ⟨hl, hm⟩, fun j hj => ?_⟩
      rw [htl] at hj
      rw [hcc j (by omega)]
      simp [List.getD, hj]
end Go.Proofs.YtbbiinbjgognjaaDoor

namespace Go.Proofs.YtbbiinbjgognjaaDoor
open Go.RowKit
set_option linter.unusedVariables false

set_option maxRecDepth 20000 in
set_option maxHeartbeats 1000000 in
theorem roS_long (ao ap : Option Addr) (n cap m cp : Nat) (w : World) (hn : n ≤ 9223372036854775807) (h : 65536 < n) :
    Calls Tryd.prog 20 #[.slice ao n cap, .slice ap m cp] w fun e w' => e = .returned (.tuple #[.agg #[.int .i64 0, .int .i64 0, .slice none 0 0, .slice none 0 0, .slice none 0 0, .int .i64 0, .int .i64 0, .int .i64 0], .int .i64 4]) ∧ Below w.heap.size w w' := by
  have hb : Below w.heap.size w (w.alloc hd0) := (Below.refl _ _).alloc (Nat.le_refl _) _
  have hh := heap_alloc_new w hd0
  have d : decide ((65536 : Int) < (n : Int)) = true := decide_eq_true (by omega)
  have HE : Hid _ := And.intro hb hh
  clear hb hh hn h
  go_enter Tryd.func20, Tryd.ntmps20
  go_wp2_with fail
  refine bodyPost_ret (v := .tuple #[.agg #[.int .i64 0, .int .i64 0, .slice none 0 0, .slice none 0 0, .slice none 0 0, .int .i64 0, .int .i64 0, .int .i64 0], .int .i64 4]) ?_ rfl ?_
  · exact results_row_tmp (t := 24) rfl _ _ w.heap.size _ (fr := (0, 0)) _ _ rfl rfl HE.out.2 Tryd.underlying24 rfl infoHd
  · exact ⟨rfl, HE.out.1⟩

set_option maxRecDepth 20000 in
set_option maxHeartbeats 1000000 in
theorem roS_bad (ao ap : Option Addr) (n cap m cp : Nat) (w : World) (hn : n ≤ 65536) (hm : m ≤ 9223372036854775807) (h : 8 < m) :
    Calls Tryd.prog 20 #[.slice ao n cap, .slice ap m cp] w fun e w' => e = .returned (.tuple #[.agg #[.int .i64 0, .int .i64 0, .slice none 0 0, .slice none 0 0, .slice none 0 0, .int .i64 0, .int .i64 0, .int .i64 0], .int .i64 1]) ∧ Below w.heap.size w w' := by
  have hb : Below w.heap.size w (w.alloc hd0) := (Below.refl _ _).alloc (Nat.le_refl _) _
  have hh := heap_alloc_new w hd0
  have d : decide ((65536 : Int) < (n : Int)) = false := decide_eq_false (by omega)
  have d1 : decide ((8 : Int) < (m : Int)) = true := decide_eq_true (by omega)
  have HE : Hid _ := And.intro hb hh
  clear hb hh hn h hm
  go_enter Tryd.func20, Tryd.ntmps20
  go_wp2_with fail
  refine bodyPost_ret (v := .tuple #[.agg #[.int .i64 0, .int .i64 0, .slice none 0 0, .slice none 0 0, .slice none 0 0, .int .i64 0, .int .i64 0, .int .i64 0], .int .i64 1]) ?_ rfl ?_
  · exact results_row_tmp (t := 24) rfl _ _ w.heap.size _ (fr := (0, 0)) _ _ rfl rfl HE.out.2 Tryd.underlying24 rfl infoHd
  · exact ⟨rfl, HE.out.1⟩

set_option maxRecDepth 20000 in
set_option maxHeartbeats 1000000 in
theorem roS_err (ao ap : Option Addr) (n cap m cp : Nat) (c : Int) (xs : List Int) (w : World) (hn : n ≤ 65536) (hm : m ≤ 8) (hlie : n = 0 ∨ ∃ b off, ao = some ⟨b, off, none⟩ ∧ Lies w b off n cap xs) (hlen : xs.length = n) (hB : Bytes xs) (hc : pk xs 0 = .error c) :
    Calls Tryd.prog 20 #[.slice ao n cap, .slice ap m cp] w fun e w' => e = .returned (.tuple #[.agg #[.int .i64 0, .int .i64 0, .slice none 0 0, .slice none 0 0, .slice none 0 0, .int .i64 0, .int .i64 0, .int .i64 0], .int .i64 c]) ∧ Below w.heap.size w w' := by
  have hb : Below w.heap.size w (w.alloc hd0) := (Below.refl _ _).alloc (Nat.le_refl _) _
  have hh := heap_alloc_new w hd0
  have hp := peekS ao n cap 0 xs (w.alloc hd0) (hlie.imp id (fun ⟨b, off, h1, h2⟩ => ⟨b, off, h1, h2.below hb⟩)) hlen hB hn (by omega)
  have d : decide ((65536 : Int) < (n : Int)) = false := decide_eq_false (by omega)
  have d1 : decide ((8 : Int) < (m : Int)) = false := decide_eq_false (by omega)
  have d0 : (c != 0) = true := by have := pk_err hc; simp [this]
  have HE : Hid _ := And.intro hb (And.intro hh hc)
  clear hb hh hn hm hlie hlen hB hc
  go_enter Tryd.func20, Tryd.ntmps20
  go_wp2_with fail
  go_at_call 27
  refine hp.mono ?_
  rintro e w1 ⟨b1, ⟨c', hc', rfl⟩ | ⟨K, vd, vs, vt, hc', _⟩⟩
  rotate_left
  · have h2 := HE.out.2.2.symm.trans hc'; cases h2
  obtain rfl : c' = c := by have h2 := hc'.symm.trans HE.out.2.2; cases h2; rfl
  have k0 : ∀ o, hdB (w1.alloc o) w.heap.size (.int .i64 0) (.int .i64 0) (.slice none 0 0) (.slice none 0 0) (.slice none 0 0) (.int .i64 0) (.int .i64 0) (.int .i64 0) := fun o => by
    have e1 := (b1.block w.heap.size (by simp)).trans HE.out.2.1
    exact (Below.heap_alloc _ _ _ ((Array.getElem?_eq_some_iff.1 e1).1)).trans e1
  have kb : ∀ o, Below w.heap.size w (w1.alloc o) := fun o => by
    have h1 := HE.out.1.trans (b1.mono HE.out.1.size)
    exact h1.alloc h1.size o
  obtain ⟨zc0, zc1, zc2, zc3, zc4, zc5, zc6, zc7⟩ := hdB_cells (k0 hd0)
  obtain ⟨zf0, zf1, zf2, zf3, zf4, zf5, zf6, zf7⟩ := hdB_free (k0 hd0)
  have HQ : Hid _ := And.intro (st8_heap (a0 := .int .i64 0) (a1 := .int .i64 0) (a2 := .slice none 0 0) (a3 := .slice none 0 0) (a4 := .slice none 0 0) (a5 := .int .i64 0) (a6 := .int .i64 0) (a7 := .int .i64 0) (k0 hd0)) (st8_below (a0 := .int .i64 0) (a1 := .int .i64 0) (a2 := .slice none 0 0) (a3 := .slice none 0 0) (a4 := .slice none 0 0) (a5 := .int .i64 0) (a6 := .int .i64 0) (a7 := .int .i64 0) (kb hd0) (Nat.le_refl w.heap.size))
  clear k0 kb b1 hp
  go_wp2_with fail
  refine bodyPost_ret (v := .tuple #[.agg #[.int .i64 0, .int .i64 0, .slice none 0 0, .slice none 0 0, .slice none 0 0, .int .i64 0, .int .i64 0, .int .i64 0], .int .i64 c']) ?_ rfl ?_
  · exact results_row_tmp (t := 24) rfl _ _ w.heap.size _ (fr := (0, 0)) _ _ rfl rfl HQ.out.1 Tryd.underlying24 rfl infoHd
  · exact ⟨rfl, HQ.out.2⟩

set_option maxRecDepth 20000 in
set_option maxHeartbeats 1000000 in
theorem roS_form (ao ap : Option Addr) (n cap m cp : Nat) (K : PK) (xs : List Int) (w : World) (hn : n ≤ 65536) (hm : m ≤ 8) (hlie : n = 0 ∨ ∃ b off, ao = some ⟨b, off, none⟩ ∧ Lies w b off n cap xs) (hlen : xs.length = n) (hB : Bytes xs) (hc : pk xs 0 = .ok K) (h3 : K.f ≠ 3) :
    Calls Tryd.prog 20 #[.slice ao n cap, .slice ap m cp] w fun e w' => e = .returned (.tuple #[.agg #[.int .i64 0, .int .i64 0, .slice none 0 0, .slice none 0 0, .slice none 0 0, .int .i64 0, .int .i64 0, .int .i64 0], .int .i64 3]) ∧ Below w.heap.size w w' := by
  have hb : Below w.heap.size w (w.alloc hd0) := (Below.refl _ _).alloc (Nat.le_refl _) _
  have hh := heap_alloc_new w hd0
  have hp := peekS ao n cap 0 xs (w.alloc hd0) (hlie.imp id (fun ⟨b, off, h1, h2⟩ => ⟨b, off, h1, h2.below hb⟩)) hlen hB hn (by omega)
  have d : decide ((65536 : Int) < (n : Int)) = false := decide_eq_false (by omega)
  have d1 : decide ((8 : Int) < (m : Int)) = false := decide_eq_false (by omega)
  have d3 : (K.f != 3) = true := by simp [h3]
  have HE : Hid _ := And.intro hb (And.intro hh hc)
  clear hb hh hn hm hlie hlen hB hc h3
  go_enter Tryd.func20, Tryd.ntmps20
  go_wp2_with fail
  go_at_call 27
  refine hp.mono ?_
  rintro e w1 ⟨b1, ⟨c', hc', _⟩ | ⟨K', vd, vs, vt, hc', rfl, ho⟩⟩
  · have h2 := HE.out.2.2.symm.trans hc'; cases h2
  obtain rfl : K' = K := by have h2 := hc'.symm.trans HE.out.2.2; cases h2; rfl
  have k0 : ∀ o, hdB (w1.alloc o) w.heap.size (.int .i64 0) (.int .i64 0) (.slice none 0 0) (.slice none 0 0) (.slice none 0 0) (.int .i64 0) (.int .i64 0) (.int .i64 0) := fun o => by
    have e1 := (b1.block w.heap.size (by simp)).trans HE.out.2.1
    exact (Below.heap_alloc _ _ _ ((Array.getElem?_eq_some_iff.1 e1).1)).trans e1
  have kb : ∀ o, Below w.heap.size w (w1.alloc o) := fun o => by
    have h1 := HE.out.1.trans (b1.mono HE.out.1.size)
    exact h1.alloc h1.size o
  obtain ⟨da, dp, ed⟩ := (row_of_owns ho.o0).form
  obtain ⟨sa, sp, es⟩ := (row_of_owns ho.o1).form
  obtain ⟨ta, tp, et⟩ := (row_of_owns ho.o2).form
  dsimp only at ed es et
  subst ed es et
  obtain ⟨zc0, zc1, zc2, zc3, zc4, zc5, zc6, zc7⟩ := hdB_cells (k0 (.cells #[.int .i64 K'.f, .int .i64 K'.v, .slice da K'.d.length dp, .slice sa K'.s.length sp, .slice ta K'.t.length tp, .int .i64 0, .int .i64 0, .int .i64 0] 24))
  obtain ⟨zf0, zf1, zf2, zf3, zf4, zf5, zf6, zf7⟩ := hdB_free (k0 (.cells #[.int .i64 K'.f, .int .i64 K'.v, .slice da K'.d.length dp, .slice sa K'.s.length sp, .slice ta K'.t.length tp, .int .i64 0, .int .i64 0, .int .i64 0] 24))
  have HQ : Hid _ := And.intro (st8_heap (a0 := .int .i64 0) (a1 := .int .i64 0) (a2 := .slice none 0 0) (a3 := .slice none 0 0) (a4 := .slice none 0 0) (a5 := .int .i64 0) (a6 := .int .i64 0) (a7 := .int .i64 0) (k0 (.cells #[.int .i64 K'.f, .int .i64 K'.v, .slice da K'.d.length dp, .slice sa K'.s.length sp, .slice ta K'.t.length tp, .int .i64 0, .int .i64 0, .int .i64 0] 24))) (st8_below (a0 := .int .i64 0) (a1 := .int .i64 0) (a2 := .slice none 0 0) (a3 := .slice none 0 0) (a4 := .slice none 0 0) (a5 := .int .i64 0) (a6 := .int .i64 0) (a7 := .int .i64 0) (kb (.cells #[.int .i64 K'.f, .int .i64 K'.v, .slice da K'.d.length dp, .slice sa K'.s.length sp, .slice ta K'.t.length tp, .int .i64 0, .int .i64 0, .int .i64 0] 24)) (Nat.le_refl w.heap.size))
  clear k0 kb b1 hp ho
  go_wp2_with fail
  refine bodyPost_ret (v := .tuple #[.agg #[.int .i64 0, .int .i64 0, .slice none 0 0, .slice none 0 0, .slice none 0 0, .int .i64 0, .int .i64 0, .int .i64 0], .int .i64 3]) ?_ rfl ?_
  · exact results_row_tmp (t := 24) rfl _ _ w.heap.size _ (fr := (0, 0)) _ _ rfl rfl HQ.out.1 Tryd.underlying24 rfl infoHd
  · exact ⟨rfl, HQ.out.2⟩

end Go.Proofs.YtbbiinbjgognjaaDoor

namespace Go.Proofs.YtbbiinbjgognjaaDoor
open Go.RowKit
set_option linter.unusedVariables false

theorem cid_le8 {xs d : List Int} {p q : Nat} (h : pkCid xs p = .ok (d, q)) : d.length ≤ 8 := by
  unfold pkCid at h
  split at h
  · cases h
  · split at h
    · cases h
    · split at h
      · cases h
      · rename_i h1 h2 h3
        cases h
        rw [sub_len xs (p + 1) _ (by omega)]
        omega
theorem ret_len {xs t : List Int} {p : Nat} (h : pkRet xs p = .ok t) : p + 9 ≤ xs.length ∧ xs.length ≤ p + 72 := by
  unfold pkRet at h
  split at h
  · cases h
  · split at h
    · cases h
    · omega
theorem tail_ret {xs d s : List Int} {f v : Int} {p : Nat} {K : PK} (h : pkTail xs f v d s p = .ok K) (h3 : K.f = 3) : p + 9 ≤ xs.length ∧ xs.length ≤ p + 72 := by
  unfold pkTail at h
  split at h
  · split at h
    · cases h
    · split at h
      · cases h
      · cases h; simp at h3
  · split at h
    · split at h
      · cases h
      · rename_i hb; exact ret_len hb
    · split at h
      · have := ini_form h; omega
      · split at h
        · split at h
          · cases h
          · cases h; simp at h3
        · cases h
/-- How long a retry packet is. -/
theorem pk_retry {xs : List Int} {cl : Int} {K : PK} (h : pk xs cl = .ok K) (h3 : K.f = 3) : 16 ≤ xs.length ∧ xs.length ≤ 95 := by
  unfold pk at h
  split at h
  · cases h
  · rename_i h16
    split at h
    · cases h
    · split at h
      · cases h
      · split at h
        · cases h
        · split at h
          · unfold pkShP at h
            split at h
            · cases h
            · cases h; simp at h3
          · unfold pkLong at h
            split at h
            · cases h
            · split at h
              · cases h
              · rename_i d p1 hc1
                split at h
                · cases h
                · rename_i s p2 hc2
                  have t1 := tail_ret h h3
                  obtain ⟨a1, a2⟩ := cid_spec hc1
                  obtain ⟨b1, b2⟩ := cid_spec hc2
                  have l1 := cid_le8 hc1
                  have l2 := cid_le8 hc2
                  omega
end Go.Proofs.YtbbiinbjgognjaaDoor

namespace Go.Proofs.YtbbiinbjgognjaaDoor
open Go.RowKit
set_option linter.unusedVariables false

theorem blkS_cell {w : World} {g : Nat} {c : Array Value} {t : TypeId} {fr : Nat × Nat} (h : w.heap[g]? = some (.cells c t fr)) (o : Nat) : w.cell? ⟨g, o, none⟩ = c[o]? := by
  simp [World.cell?, h]
theorem blkS_free {w : World} {g : Nat} {c : Array Value} {t : TypeId} (h : w.heap[g]? = some (.cells c t (0, 0))) (o : Nat) : w.frozen? ⟨g, o, none⟩ = false := by
  simp [World.frozen?, h]
theorem one_row (w : World) (x : Int) : Row (w.alloc (.cells #[.int .u8 x] 5)) .u8 (.slice (some ⟨w.heap.size, 0, none⟩) 1 1) [x] := by
  refine Or.inr ⟨w.heap.size, 0, 1, rfl, by simp, ⟨Nat.le_refl _, by unfold maxLen; decide⟩, fun j hj => ?_⟩
  have : j = 0 := by simpa using hj
  subst this
  rw [blkS_cell (MapKept.heap_alloc w _).1]
  rfl
/-- A list of rows of bytes, as '...' hands it on. -/
structure Parts (w : World) (vp : Value) (L : List (List Int)) : Prop where
  at' : ∃ p cap, vp = .slice (some ⟨p, 0, none⟩) L.length cap ∧ p < w.heap.size ∧ ∀ j, j < L.length → ∃ v, w.cell? ⟨p, j, none⟩ = some v ∧ Row w .u8 v (L.getD j [])
theorem flat_take (L : List (List Int)) (k : Nat) (hk : k < L.length) : (L.take (k + 1)).flatten = (L.take k).flatten ++ L.getD k [] := by
  rw [List.take_add_one, List.flatten_append]
  simp [List.getD, hk]
theorem Parts.below {w w' : World} {v : Value} {L : List (List Int)} (h : Parts w v L) (hb : Below w.heap.size w w') : Parts w' v L := by
  obtain ⟨p, cap, rfl, hp, hc⟩ := h.at'
  refine ⟨p, cap, rfl, by have := hb.size; omega, fun j hj => ?_⟩
  obtain ⟨v, hv, hr⟩ := hc j hj
  exact ⟨v, (hb.cell (p := ⟨p, j, none⟩) hp).trans hv, hr.below hb⟩
/-- One part, two parts. -/
theorem parts1 {w : World} {v : Value} {xs : List Int} (h : Row w .u8 v xs) (t : TypeId) : Parts (w.alloc (.cells #[v] t)) (.slice (some ⟨w.heap.size, 0, none⟩) 1 1) [xs] := by
  refine ⟨w.heap.size, 1, rfl, by simp, fun j hj => ?_⟩
  obtain rfl : j = 0 := by simp at hj; omega
  exact ⟨v, by rw [blkS_cell (MapKept.heap_alloc w _).1]; rfl, h.below ((Below.refl _ _).alloc (Nat.le_refl _) _)⟩
theorem parts2 {w : World} {v v2 : Value} {xs ys : List Int} (h : Row w .u8 v xs) (h2 : Row w .u8 v2 ys) (t : TypeId) : Parts (w.alloc (.cells #[v, v2] t)) (.slice (some ⟨w.heap.size, 0, none⟩) 2 2) [xs, ys] := by
  refine ⟨w.heap.size, 2, rfl, by simp, fun j hj => ?_⟩
  have hb := (Below.refl w.heap.size w).alloc (Nat.le_refl _) (.cells #[v, v2] t)
  rcases (show j = 0 ∨ j = 1 by simp at hj; omega) with rfl | rfl
  · exact ⟨v, by rw [blkS_cell (MapKept.heap_alloc w _).1]; rfl, h.below hb⟩
  · exact ⟨v2, by rw [blkS_cell (MapKept.heap_alloc w _).1]; rfl, h2.below hb⟩
theorem bytes_getD2 {xs ys : List Int} (hx : Bytes xs) (hy : Bytes ys) (j : Nat) : Bytes ([xs, ys].getD j []) := by
  match j with
  | 0 => exact hx
  | 1 => exact hy
  | n + 2 => intro x h; simp [List.getD] at h
theorem bytes_getD1 {xs : List Int} (hx : Bytes xs) (j : Nat) : Bytes ([xs].getD j []) := by
  match j with
  | 0 => exact hx
  | n + 1 => intro x h; simp [List.getD] at h
end Go.Proofs.YtbbiinbjgognjaaDoor

namespace Go.Proofs.YtbbiinbjgognjaaDoor
open Go.RowKit
set_option linter.unusedVariables false

theorem infoU8 : (Tryd.prog.info? 5).map (fun i => (i.zero, i.size, i.bytes)) = some (some (.int .u8 0), 1, 1) := by kernel_rfl

/-- The n lowest bytes of v, the highest first. -/
def be (v : Int) : Nat → List Int
  | 0 => []
  | n + 1 => be (v / 256) n ++ [v % 256]

theorem be_length (v : Int) (n : Nat) : (be v n).length = n := by
  induction n generalizing v with
  | zero => rfl
  | succ n ih => simp [be, ih]

theorem digits_nil (v : Int) (w : World) :
    Calls Tryd.prog 70 #[.int .i64 v, .int .i64 0] w fun e w' => ∃ r, e = .returned r ∧ w'.ownsRow w.heap.size 5 1 r 0 ([].map (Value.int .u8)) ∧ Below w.heap.size w w' := by
  go_enter Tryd.func70, Tryd.ntmps70
  go_wp2
  go_ret
  refine ⟨_, rfl, ?_, (Below.refl _ _).alloc (Nat.le_refl _) _⟩
  exact World.ownsRow_lit w #[] 0 (Nat.le_refl _) (by decide) rfl

set_option maxHeartbeats 400000 in
theorem digits (n : Nat) : ∀ (v : Int) (w : World), 0 ≤ v → v ≤ 9223372036854775807 → n ≤ 8 →
    Calls Tryd.prog 70 #[.int .i64 v, .int .i64 n] w fun e w' => ∃ r, e = .returned r ∧ w'.ownsRow w.heap.size 5 1 r n ((be v n).map (Value.int .u8)) ∧ Below w.heap.size w w' := by
  induction n with
  | zero => intro v w _ _ _; exact digits_nil v w
  | succ n ih =>
    intro v w h0 h1 hn
    obtain ⟨i0, hi, hz0, hz1, hz2⟩ := info_parts infoU8
    have hne : (((n : Int) + 1) == 0) = false := by simp; omega
    have IH : ∀ w : World, Calls Tryd.prog 70 #[.int .i64 (v / 256), .int .i64 n] w fun e w' => ∃ r, e = .returned r ∧ w'.ownsRow w.heap.size 5 1 r n ((be (v / 256) n).map (Value.int .u8)) ∧ Below w.heap.size w w' :=
      fun w => ih (v / 256) w (by omega) (by omega) (by omega)
    clear ih
    have e1 : (((n + 1 : Nat) : Int)) = (n : Int) + 1 := by omega
    rw [e1]
    clear e1
    go_enter Tryd.func70, Tryd.ntmps70
    go_wp2_with (first
      | (go_at_call 70; refine (IH _).mono ?_; rintro e w1 ⟨r, rfl, hown, hb⟩)
      | (at_builtin; refine wpList_append_own _ rfl _ _ 22 rfl w.heap.size 5 i0 (.int .u8 0) 1 1 Tryd.underlying22 hi hz0 hz1 hz2 rfl (by decide) _ _ _ rfl (hown.alloc _) ⟨w1.heap.size, 0, none⟩ 1 1 [.int .u8 (v % 256)] rfl rfl ?c1 ?c2 ?c3 ?c4 ?c5 ?_))
    case c1 =>
      intro j u hj
      match j, hj with
      | 0, hj => simp at hj; subst hj; simp [Addr.add]
    case c2 => intro u hu; simp at hu; subst hu; rfl
    case c3 => unfold maxLen; omega
    case c4 => omega
    case c5 => have := hb.size; simp; omega
    intro v' w2 hown' hgrow _
    go_wp2
    go_ret
    refine ⟨v', rfl, ?_, ?_⟩
    · have : (be (v / 256) n).map (Value.int .u8) ++ [Value.int .u8 (v % 256)] = (be v (n + 1)).map (Value.int .u8) := by simp [be]
      rw [← this]
      exact hown'
    · refine (hb.alloc hb.size _).grown hgrow (by have := hb.size; simp; omega) ?_
      intro k hk
      exact (hown.lt k hk).1
end Go.Proofs.YtbbiinbjgognjaaDoor

namespace Go.Proofs.YtbbiinbjgognjaaDoor
open Go.RowKit
set_option linter.unusedVariables false

/-- A version, and both ids with their lengths ahead. -/
def idsV (v : Int) (d s : List Int) : List Int := (((be v 4 ++ [(d.length : Int)]) ++ d) ++ [(s.length : Int)]) ++ s
theorem idsV_length (v : Int) (d s : List Int) : (idsV v d s).length = 6 + d.length + s.length := by simp [idsV, be_length]; omega
theorem wrap8 (n : Nat) (h : n ≤ 8) : IntKind.u8.wrap (n : Int) = (n : Int) := by rw [IntKind.wrap_u8]; omega
end Go.Proofs.YtbbiinbjgognjaaDoor

namespace Go.Proofs.YtbbiinbjgognjaaDoor
open Go.RowKit
set_option linter.unusedVariables false

/-- 32 bits turned left. -/
def rot7 (x : Int) : Int := bits .or .u32 (x * 128 % 4294967296) (x / 33554432)
def rot13 (x : Int) : Int := bits .or .u32 (x * 8192 % 4294967296) (x / 524288)
def rot17 (x : Int) : Int := bits .or .u32 (x * 131072 % 4294967296) (x / 32768)
/-- A number of 32 bits. -/
def U32 (x : Int) : Prop := 0 ≤ x ∧ x < 4294967296
theorem bits32_or (x y : Int) : U32 (bits .or .u32 x y) := by
  have h : bits .or .u32 x y = IntKind.u32.wrap ((BitVec.ofInt 32 x ||| BitVec.ofInt 32 y).toNat : Int) := rfl
  rw [h, IntKind.wrap_u32]
  unfold U32
  omega
theorem bits32_xor (x y : Int) : U32 (bits .xor .u32 x y) := by
  have h : bits .xor .u32 x y = IntKind.u32.wrap ((BitVec.ofInt 32 x ^^^ BitVec.ofInt 32 y).toNat : Int) := rfl
  rw [h, IntKind.wrap_u32]
  unfold U32
  omega

theorem rot_7 (x : Int) (w : World) (h0 : 0 ≤ x) (h1 : x < 4294967296) : Calls Tryd.prog 80 #[.int .u32 x, .int .i64 7] w fun e w' => e = .returned (.int .u32 (rot7 x)) ∧ w' = w := by
  go_enter Tryd.func80, Tryd.ntmps80
  go_wp2
  go_ret
  exact ⟨rfl, rfl⟩
theorem rot_13 (x : Int) (w : World) (h0 : 0 ≤ x) (h1 : x < 4294967296) : Calls Tryd.prog 80 #[.int .u32 x, .int .i64 13] w fun e w' => e = .returned (.int .u32 (rot13 x)) ∧ w' = w := by
  go_enter Tryd.func80, Tryd.ntmps80
  go_wp2
  go_ret
  exact ⟨rfl, rfl⟩
theorem rot_17 (x : Int) (w : World) (h0 : 0 ≤ x) (h1 : x < 4294967296) : Calls Tryd.prog 80 #[.int .u32 x, .int .i64 17] w fun e w' => e = .returned (.int .u32 (rot17 x)) ∧ w' = w := by
  go_enter Tryd.func80, Tryd.ntmps80
  go_wp2
  go_ret
  exact ⟨rfl, rfl⟩

/-- The digest's four numbers. -/
structure S4 where
  a : Int
  b : Int
  c : Int
  d : Int
def S4.ok (s : S4) : Prop := U32 s.a ∧ U32 s.b ∧ U32 s.c ∧ U32 s.d
def S4.val (s : S4) : Value := .agg #[.int .u32 s.a, .int .u32 s.b, .int .u32 s.c, .int .u32 s.d]
def stA (s : S4) (v : Int) : Int := bits .xor .u32 s.a v * 16777619 % 4294967296
def stB (s : S4) (v : Int) : Int := rot7 ((s.b + bits .xor .u32 s.a v * 16777619) % 4294967296)
def stC (s : S4) (v : Int) : Int := rot13 (bits .xor .u32 s.c (stB s v))
def stD (s : S4) (v : Int) : Int := rot17 ((s.d + stC s v) % 4294967296)
/-- A byte stirred in. -/
def stir1 (s : S4) (v : Int) : S4 := ⟨bits .xor .u32 (stA s v) (stD s v), stB s v, stC s v, stD s v⟩
def stirL (s : S4) (xs : List Int) : S4 := xs.foldl stir1 s
theorem stir1_ok (s : S4) (v : Int) : (stir1 s v).ok := ⟨bits32_xor _ _, bits32_or _ _, bits32_or _ _, bits32_or _ _⟩
theorem stirL_ok (s : S4) (xs : List Int) (h : s.ok) : (stirL s xs).ok := by
  induction xs generalizing s with
  | nil => exact h
  | cons x xs ih => exact ih _ (stir1_ok s x)
theorem stirL_append (s : S4) (xs ys : List Int) : stirL s (xs ++ ys) = stirL (stirL s xs) ys := by simp [stirL]
theorem stirL_take (s : S4) (xs : List Int) (k : Nat) (hk : k < xs.length) : stirL s (xs.take (k + 1)) = stir1 (stirL s (xs.take k)) (xs.getD k 0) := by
  rw [List.take_add_one, stirL_append]
  simp [stirL, List.getD, hk]
end Go.Proofs.YtbbiinbjgognjaaDoor

namespace Go.Proofs.YtbbiinbjgognjaaDoor
open Go.RowKit
set_option linter.unusedVariables false

theorem blkS_setCell {w : World} {g : Nat} {c : Array Value} {t : TypeId} {fr : Nat × Nat} (h : w.heap[g]? = some (.cells c t fr)) (o : Nat) (u : Value) : (w.setCell ⟨g, o, none⟩ u).heap[g]? = some (.cells (c.setIfInBounds o u) t fr) := by
  simp only [World.setCell, Array.getElem?_modify, if_true]
  rw [h]
  rfl
theorem blkS_other {w : World} {g k : Nat} (hk : k ≠ g) (o : Nat) (u : Value) : (w.setCell ⟨g, o, none⟩ u).heap[k]? = w.heap[k]? := Below.heap_setCell _ _ _ _ hk
/-- The state lies in block g, the answer's room behind it; below w's end nothing has turned. -/
structure StirAt (w wr : World) (g : Nat) (s : S4) : Prop where
  blk : wr.heap[g]? = some (.cells #[.int .u32 s.a, .int .u32 s.b, .int .u32 s.c, .int .u32 s.d] 108 (0, 0))
  out : wr.heap[g + 1]? = some (.cells #[.int .u32 0, .int .u32 0, .int .u32 0, .int .u32 0] 108 (0, 0))
  bel : Below w.heap.size w wr

theorem infoS4 : (Tryd.prog.info? 108).map (·.size) = some 4 := by kernel_rfl
theorem StirAt.drew {w wr : World} {g : Nat} {s : S4} (h : StirAt w wr g s) : StirAt w wr.drew g s := ⟨h.blk, h.out, ⟨h.bel.os, h.bel.tape, h.bel.output, h.bel.size, h.bel.block⟩⟩

theorem stir_none (s : S4) (hs : s.ok) (ao : Option Addr) (cap : Nat) (w : World) :
    Calls Tryd.prog 69 #[s.val, .slice ao 0 cap] w fun e w' => e = .returned s.val ∧ Below w.heap.size w w' := by
  obtain ⟨a, b, c, d⟩ := s
  unfold S4.val
  simp only
  clear hs
  go_enter Tryd.func69, Tryd.ntmps69
  go_wp2
  refine wp_loop_rounds 1 ?_
  rw [rounds_succ]
  go_wp2
  refine bodyPost_ret (v := .agg #[.int .u32 a, .int .u32 b, .int .u32 c, .int .u32 d]) (by simp [results, Tryd.results69, go_sem]) rfl ⟨rfl, ?_⟩
  exact ((Below.refl _ _).alloc (Nat.le_refl _) _).alloc (by simp) _

theorem two_newS (w : World) (o1 o2 : Obj) : ((w.alloc o1).alloc o2).heap[w.heap.size]? = some o1 ∧ ((w.alloc o1).alloc o2).heap[w.heap.size + 1]? = some o2 := by
  have h1 := (MapKept.heap_alloc w o1).1
  have h2 := (MapKept.heap_alloc (w.alloc o1) o2).1
  have e : (w.alloc o1).heap.size = w.heap.size + 1 := by simp
  refine ⟨?_, by rw [← e]; exact h2⟩
  rw [Below.heap_alloc (w.alloc o1) o2 _ (by rw [e]; omega)]
  exact h1

/-- What a round of the stirring leaves. -/
theorem stirAt_step {w wr : World} {t : S4} {x : Int} (h : StirAt w wr w.heap.size t) (w' : World) (e : w'.heap = (wr.setCell ⟨w.heap.size, 0, none⟩ (.int .u32 (stA t x))).heap) (eo : w'.os = wr.os) (et : w'.tape = wr.tape) (eu : w'.output = wr.output) :
    StirAt w ((((w'.setCell ⟨w.heap.size, 1, none⟩ (.int .u32 (stB t x))).setCell ⟨w.heap.size, 2, none⟩ (.int .u32 (stC t x))).setCell ⟨w.heap.size, 3, none⟩ (.int .u32 (stD t x))).setCell ⟨w.heap.size, 0, none⟩ (.int .u32 (stir1 t x).a)) w.heap.size (stir1 t x) := by
  have hb := blkS_setCell h.blk 0 (.int .u32 (stA t x))
  have ho : (wr.setCell ⟨w.heap.size, 0, none⟩ (.int .u32 (stA t x))).heap[w.heap.size + 1]? = _ := (blkS_other (by omega) 0 _).trans h.out
  have hbel : Below w.heap.size w (wr.setCell ⟨w.heap.size, 0, none⟩ (.int .u32 (stA t x))) := h.bel.setCell (Nat.le_refl _) _
  rw [← e] at hb ho
  have hbel' : Below w.heap.size w w' := ⟨eo.trans h.bel.os, et.trans h.bel.tape, eu.trans h.bel.output, by rw [e]; exact hbel.size, fun k hk => by rw [e]; exact hbel.block k hk⟩
  refine ⟨?_, ?_, (((hbel'.setCell (Nat.le_refl _) _).setCell (Nat.le_refl _) _).setCell (Nat.le_refl _) _).setCell (Nat.le_refl _) _⟩
  · rw [blkS_setCell (blkS_setCell (blkS_setCell (blkS_setCell hb 1 _) 2 _) 3 _) 0 _]
    rfl
  · rw [blkS_other (by omega), blkS_other (by omega), blkS_other (by omega), blkS_other (by omega)]
    exact ho

set_option maxHeartbeats 2000000 in
theorem stir_some (s : S4) (hs : s.ok) (b off cap n : Nat) (xs : List Int) (w : World) (hn : 0 < n) (hl : xs.length = n) (hn1 : n ≤ 4611686018427387903) (hb : b < w.heap.size) (hB : Bytes xs)
    (hc : ∀ j, j < n → w.cell? ⟨b, off + j, none⟩ = some (.int .u8 (xs.getD j 0))) :
    Calls Tryd.prog 69 #[s.val, .slice (some ⟨b, off, none⟩) n cap] w fun e w' => e = .returned (stirL s xs).val ∧ Below w.heap.size w w' := by
  have HC : Hid _ := And.intro hc (And.intro hB (And.intro hl hs))
  clear hc hB hl
  have e0 : s.val = .agg #[.int .u32 s.a, .int .u32 s.b, .int .u32 s.c, .int .u32 s.d] := rfl
  rw [e0]
  clear e0 hs
  go_enter Tryd.func69, Tryd.ntmps69
  go_wp2
  go_loopw [5] (fun i wr => ∃ k : Nat, k ≤ n ∧ i = .int .i64 (k : Int) ∧ StirAt w wr w.heap.size (stirL s (xs.take k))) (fun i _ => n - (intOf i).toNat)
  case atStart => exact ⟨0, by omega, rfl, ⟨(two_newS _ _ _).1, (two_newS _ _ _).2, ((Below.refl _ _).alloc (Nat.le_refl _) _).alloc (by simp) _⟩⟩
  case round =>
    obtain ⟨k, hk, rfl, st⟩ := hrel
    have ok := stirL_ok s (xs.take k) HC.out.2.2.2
    by_cases hlt : k < n
    · have es := stirL_take s xs k (by have := HC.out.2.2.1; omega)
      have bx := HC.out.2.1.at k
      have cx := (st.bel.cell (p := ⟨b, off + k, none⟩) hb).trans (HC.out.1 k hlt)
      obtain ⟨t, et⟩ : ∃ t, t = stirL s (xs.take k) := ⟨_, rfl⟩
      rw [← et] at st ok es
      obtain ⟨x, ex⟩ : ∃ x, x = xs.getD k 0 := ⟨_, rfl⟩
      rw [← ex] at bx cx es
      have HE : Hid (stirL s (xs.take (k + 1)) = stir1 t x) := es
      have c0 : wr.cell? ⟨w.heap.size, 0, none⟩ = some (.int .u32 t.a) := by rw [blkS_cell st.blk]; rfl
      have c1 : wr.cell? ⟨w.heap.size, 1, none⟩ = some (.int .u32 t.b) := by rw [blkS_cell st.blk]; rfl
      have c2 : wr.cell? ⟨w.heap.size, 2, none⟩ = some (.int .u32 t.c) := by rw [blkS_cell st.blk]; rfl
      have c3 : wr.cell? ⟨w.heap.size, 3, none⟩ = some (.int .u32 t.d) := by rw [blkS_cell st.blk]; rfl
      have f0 := blkS_free st.blk 0
      have f1 := blkS_free st.blk 1
      have f2 := blkS_free st.blk 2
      have f3 := blkS_free st.blk 3
      have hne : b ≠ w.heap.size := by omega
      have HS : Hid _ := st
      obtain ⟨⟨a0, a1⟩, ⟨b0, b1⟩, ⟨g0, g1⟩, ⟨d0, d1⟩⟩ := ok
      clear st es ex et
      have uA : U32 (stA t x) := by unfold U32 stA; omega
      have uB : U32 (stB t x) := bits32_or _ _
      have uC : U32 (stC t x) := bits32_or _ _
      have uD : U32 (stD t x) := bits32_or _ _
      go_wp2
      go_region
      go_wp2_with fail
      go_at_call 80
      refine (rot_7 _ _ ?_ ?_).mono ?_
      · omega
      · omega
      rintro e w' ⟨rfl, rfl⟩
      go_wp2_with fail
      go_at_call 80
      refine (rot_13 _ _ (bits32_xor _ _).1 (bits32_xor _ _).2).mono ?_
      rintro e w' ⟨rfl, rfl⟩
      go_wp2_with fail
      go_at_call 80
      refine (rot_17 _ _ ?_ ?_).mono ?_
      · omega
      · omega
      rintro e w' ⟨rfl, rfl⟩
      go_wp2
      go_roundw
      case rel =>
        refine ⟨k + 1, by omega, by go_num, ?_⟩
        rw [HE.out]
        exact (stirAt_step (x := x) HS.out (wr.setCell ⟨w.heap.size, 0, none⟩ (.int .u32 (stA t x))) rfl rfl rfl rfl).drew
      case measure => simp [intOf]; omega
    · obtain rfl : k = n := by omega
      have el : xs.take k = xs := List.take_of_length_le (by have := HC.out.2.2.1; omega)
      rw [el] at st ok
      obtain ⟨t, et⟩ : ∃ t, t = stirL s xs := ⟨_, rfl⟩
      rw [← et] at st ok
      have c0 : wr.cell? ⟨w.heap.size, 0, none⟩ = some (.int .u32 t.a) := by rw [blkS_cell st.blk]; rfl
      have c1 : wr.cell? ⟨w.heap.size, 1, none⟩ = some (.int .u32 t.b) := by rw [blkS_cell st.blk]; rfl
      have c2 : wr.cell? ⟨w.heap.size, 2, none⟩ = some (.int .u32 t.c) := by rw [blkS_cell st.blk]; rfl
      have c3 : wr.cell? ⟨w.heap.size, 3, none⟩ = some (.int .u32 t.d) := by rw [blkS_cell st.blk]; rfl
      have f0 := blkS_free st.out 0
      have f1 := blkS_free st.out 1
      have f2 := blkS_free st.out 2
      have f3 := blkS_free st.out 3
      have o0 : wr.cell? ⟨w.heap.size + 1, 0, none⟩ = some (.int .u32 0) := by rw [blkS_cell st.out]; rfl
      have o1 : wr.cell? ⟨w.heap.size + 1, 1, none⟩ = some (.int .u32 0) := by rw [blkS_cell st.out]; rfl
      have o2 : wr.cell? ⟨w.heap.size + 1, 2, none⟩ = some (.int .u32 0) := by rw [blkS_cell st.out]; rfl
      have o3 : wr.cell? ⟨w.heap.size + 1, 3, none⟩ = some (.int .u32 0) := by rw [blkS_cell st.out]; rfl
      have HS : Hid _ := And.intro st et
      clear st et
      go_wp2
      try simp only [Exit.inBlock, Exit.then]
      refine bodyPost_ret (v := .agg #[.int .u32 t.a, .int .u32 t.b, .int .u32 t.c, .int .u32 t.d]) ?_ rfl ?_
      · refine results_cell_row (t := 108) rfl _ _ (w.heap.size + 1) _ (fr := (0, 0)) _ rfl ?_ Tryd.underlying108 rfl infoS4
        rw [blkS_setCell (blkS_setCell (blkS_setCell (blkS_setCell HS.out.1.out 0 _) 1 _) 2 _) 3 _]
        rfl
      · refine ⟨by rw [HS.out.2]; rfl, ?_⟩
        exact (((HS.out.1.bel.setCell (by simp) _).setCell (by simp) _).setCell (by simp) _).setCell (by simp) _

theorem stirC (s : S4) (hs : s.ok) (v : Value) (xs : List Int) (w : World) (hrow : Row w .u8 v xs) (hB : Bytes xs) (hl : xs.length ≤ 4611686018427387903) :
    Calls Tryd.prog 69 #[s.val, v] w fun e w' => e = .returned (stirL s xs).val ∧ Below w.heap.size w w' := by
  by_cases h0 : xs.length = 0
  · obtain ⟨ao, cap, rfl⟩ := hrow.form
    rw [h0, List.eq_nil_of_length_eq_zero h0]
    exact stir_none s hs ao cap w
  · obtain ⟨b, off, cap, rfl, hb, hc⟩ := hrow.at (by omega)
    exact stir_some s hs b off cap xs.length xs w (by omega) rfl hl hb hB hc
end Go.Proofs.YtbbiinbjgognjaaDoor

namespace Go.Proofs.YtbbiinbjgognjaaDoor
open Go.RowKit
set_option linter.unusedVariables false

def dig0 : S4 := ⟨1779033703, 3144134277, 1013904242, 2773480762⟩
theorem dig0_ok : dig0.ok := by unfold S4.ok U32 dig0; decide
/-- The four numbers of the digest of a key and data, and its bytes. -/
def digS (ks ds : List Int) : S4 := stirL (stirL (stirL (stirL (stirL dig0 (be (ks.length : Int) 4)) ks) ds) (be (ds.length : Int) 4)) (List.replicate 16 165)
def digV (ks ds : List Int) : List Int := be (digS ks ds).a 4 ++ be (digS ks ds).b 4 ++ be (digS ks ds).c 4 ++ be (digS ks ds).d 4
theorem digV_length (ks ds : List Int) : (digV ks ds).length = 16 := by simp [digV, be_length]
theorem be_bytes (v : Int) (n : Nat) : Bytes (be v n) := by
  induction n generalizing v with
  | zero => intro x hx; simp [be] at hx
  | succ n ih =>
    intro x hx
    simp only [be, List.mem_append, List.mem_singleton] at hx
    rcases hx with hx | rfl
    · exact ih _ x hx
    · omega
theorem bytes_append {xs ys : List Int} (hx : Bytes xs) (hy : Bytes ys) : Bytes (xs ++ ys) := by
  intro x h
  rcases List.mem_append.1 h with h | h
  · exact hx x h
  · exact hy x h
theorem digV_bytes (ks ds : List Int) : Bytes (digV ks ds) := bytes_append (bytes_append (bytes_append (be_bytes _ _) (be_bytes _ _)) (be_bytes _ _)) (be_bytes _ _)

/-- The digest's state lies in the first new block; below nothing has turned. -/
structure DigAt (w wx : World) (s : S4) : Prop where
  blk : wx.heap[w.heap.size]? = some (.cells #[.int .u32 s.a, .int .u32 s.b, .int .u32 s.c, .int .u32 s.d] 108 (0, 0))
  bel : Below w.heap.size w wx
theorem DigAt.lt {w wx : World} {s : S4} (h : DigAt w wx s) : w.heap.size < wx.heap.size := (Array.getElem?_eq_some_iff.1 h.blk).1
theorem DigAt.called {w wx w' : World} {s : S4} (h : DigAt w wx s) (hb : Below wx.heap.size wx w') : DigAt w w' s :=
  ⟨(hb.block _ h.lt).trans h.blk, h.bel.trans (hb.mono h.bel.size)⟩
theorem DigAt.alloc {w wx : World} {s : S4} (h : DigAt w wx s) (o : Obj) : DigAt w (wx.alloc o) s := h.called ((Below.refl _ _).alloc (Nat.le_refl _) o)
theorem DigAt.drew {w wx : World} {s : S4} (h : DigAt w wx s) : DigAt w wx.drew s := ⟨h.blk, ⟨h.bel.os, h.bel.tape, h.bel.output, h.bel.size, h.bel.block⟩⟩
theorem DigAt.stored {w wx : World} {s : S4} (h : DigAt w wx s) (t : S4) : DigAt w ((((wx.setCell ⟨w.heap.size, 0, none⟩ (.int .u32 t.a)).setCell ⟨w.heap.size, 1, none⟩ (.int .u32 t.b)).setCell ⟨w.heap.size, 2, none⟩ (.int .u32 t.c)).setCell ⟨w.heap.size, 3, none⟩ (.int .u32 t.d)) t := by
  refine ⟨?_, (((h.bel.setCell (Nat.le_refl _) _).setCell (Nat.le_refl _) _).setCell (Nat.le_refl _) _).setCell (Nat.le_refl _) _⟩
  rw [blkS_setCell (blkS_setCell (blkS_setCell (blkS_setCell h.blk 0 _) 1 _) 2 _) 3 _]
  rfl
theorem DigAt.cells {w wx : World} {s : S4} (h : DigAt w wx s) : wx.cell? ⟨w.heap.size, 0, none⟩ = some (.int .u32 s.a) ∧ wx.cell? ⟨w.heap.size, 1, none⟩ = some (.int .u32 s.b) ∧ wx.cell? ⟨w.heap.size, 2, none⟩ = some (.int .u32 s.c) ∧ wx.cell? ⟨w.heap.size, 3, none⟩ = some (.int .u32 s.d) :=
  ⟨by rw [blkS_cell h.blk]; rfl, by rw [blkS_cell h.blk]; rfl, by rw [blkS_cell h.blk]; rfl, by rw [blkS_cell h.blk]; rfl⟩
theorem DigAt.free {w wx : World} {s : S4} (h : DigAt w wx s) : wx.frozen? ⟨w.heap.size, 0, none⟩ = false ∧ wx.frozen? ⟨w.heap.size, 1, none⟩ = false ∧ wx.frozen? ⟨w.heap.size, 2, none⟩ = false ∧ wx.frozen? ⟨w.heap.size, 3, none⟩ = false :=
  ⟨blkS_free h.blk 0, blkS_free h.blk 1, blkS_free h.blk 2, blkS_free h.blk 3⟩
theorem stirD (s : S4) (hs : s.ok) (v : Value) (xs : List Int) (w : World) (hrow : Row w .u8 v xs) (hB : Bytes xs) (hl : xs.length ≤ 4611686018427387903) :
    Calls Tryd.prog 69 #[.agg #[.int .u32 s.a, .int .u32 s.b, .int .u32 s.c, .int .u32 s.d], v] w fun e w' => e = .returned (.agg #[.int .u32 (stirL s xs).a, .int .u32 (stirL s xs).b, .int .u32 (stirL s xs).c, .int .u32 (stirL s xs).d]) ∧ Below w.heap.size w w' :=
  stirC s hs v xs w hrow hB hl

theorem DigAt.grown {w wx w' : World} {s : S4} {r : Option Nat} (h : DigAt w wx s) (hg : wx.grownBy w' r) (hr : ∀ k, r = some k → w.heap.size < k) : DigAt w w' s := by
  refine ⟨(hg.block _ h.lt (fun e => by have := hr _ e.symm; omega)).trans h.blk, ⟨hg.os.trans h.bel.os, hg.tape.trans h.bel.tape, hg.output.trans h.bel.output, Nat.le_trans h.bel.size hg.size, fun k hk => ?_⟩⟩
  exact (hg.block k (Nat.lt_trans hk h.lt) (fun e => by have := hr _ e.symm; omega)).trans (h.bel.block k hk)
theorem pc_one (zs : List Int) (k : IntKind) : ∀ u, u ∈ zs.map (Value.int k) → u.oneCell' = true := by
  intro u hu
  obtain ⟨z, _, rfl⟩ := List.mem_map.1 hu
  rfl
theorem pc_cells {w : World} {base e g m cap : Nat} {zs : List Int} (h : w.ownsRow base e 1 (.slice (some ⟨g, 0, none⟩) m cap) m (zs.map (Value.int .u8))) :
    ∀ (j : Nat) (u : Value), (zs.map (Value.int .u8))[j]? = some u → w.cell? ((⟨g, 0, none⟩ : Addr).add j) = some u := by
  intro j u hj
  have hl : (zs.map (Value.int .u8)).length = m * 1 := h.1
  have hlt : j < m * 1 := by
    rw [← hl]
    exact (List.getElem?_eq_some_iff.1 hj).1
  have := h.cellAt j hlt
  rw [Go.WideShapes.add_plain, Nat.zero_add, this]
  exact hj
theorem dig_new (w : World) : DigAt w (w.alloc (.cells #[.int .u32 1779033703, .int .u32 3144134277, .int .u32 1013904242, .int .u32 2773480762] 108)) dig0 :=
  ⟨(MapKept.heap_alloc w _).1, (Below.refl _ _).alloc (Nat.le_refl _) _⟩

set_option maxRecDepth 20000 in
set_option maxHeartbeats 2000000 in
theorem specDigest (vk vd : Value) (ks ds : List Int) (w : World) (rk : Row w .u8 vk ks) (rd : Row w .u8 vd ds) (bk : Bytes ks) (bd : Bytes ds) (lk : ks.length ≤ 4611686018427387903) (ld : ds.length ≤ 4611686018427387903) :
    Calls Tryd.prog 50 #[vk, vd] w fun e w' => ∃ r, e = .returned r ∧ w'.ownsRow w.heap.size 5 1 r 16 ((digV ks ds).map (Value.int .u8)) ∧ Below w.heap.size w w' := by
  obtain ⟨i0, hi, hz0, hz1, hz2⟩ := info_parts infoU8
  obtain ⟨aok, capk, ek⟩ := rk.form
  obtain ⟨aod, capd, ed⟩ := rd.form
  subst ek ed
  obtain ⟨nk, enk⟩ : ∃ n, n = ks.length := ⟨_, rfl⟩
  obtain ⟨nd, ent⟩ : ∃ n, n = ds.length := ⟨_, rfl⟩
  rw [← enk] at lk rk ⊢
  rw [← ent] at ld rd ⊢
  have HH : Hid _ := And.intro rk (And.intro rd (And.intro bk (And.intro bd (And.intro enk ent))))
  clear rk rd bk bd enk ent
  have D0 := (dig_new w).drew
  have HD : Hid _ := D0
  clear D0
  go_enter Tryd.func50, Tryd.ntmps50
  go_upto_region 2 with fail
  go_cut [] from 9 to 13 (fun wx => DigAt w wx (stirL dig0 (be (nk : Int) 4)))
  case first =>
    go_region_with (first
      | (go_at_call 70; refine (digits 4 (nk : Int) _ ?_ ?_ ?_).mono ?_; omega; omega; decide; rintro e w2 ⟨r, rfl, o2, b2⟩; obtain ⟨c0, c1, c2, c3⟩ := (HD.out.called b2).cells; simp only [dig0] at c0 c1 c2 c3)
      | (go_at_call 69; refine (stirD dig0 dig0_ok _ _ _ (row_of_owns o2) (be_bytes _ _) ?_).mono ?_; (rw [be_length]; decide); rintro e w3 ⟨rfl, b3⟩; obtain ⟨d0, d1, d2, d3⟩ := ((HD.out.called b2).called b3).cells; obtain ⟨f0, f1, f2, f3⟩ := ((HD.out.called b2).called b3).free))
    all_goals (go_wp2_with fail; go_meet; exact ((HD.out.called b2).called b3).stored _)
  case rest =>
    have k1 := stirL_ok dig0 (be (nk : Int) 4) dig0_ok
    have E1 : Hid (stirL dig0 (be (nk : Int) 4) = stirL dig0 (be (ks.length : Int) 4)) := by rw [HH.out.2.2.2.2.1]; rfl
    generalize stirL dig0 (be (nk : Int) 4) = s1 at hcut k1 E1
    obtain ⟨c0, c1, c2, c3⟩ := hcut.cells
    have H1 : Hid _ := And.intro hcut k1
    clear hcut k1 HD
    go_wp2_with fail
    go_at_call 69
    refine (stirD s1 H1.out.2 _ ks _ (HH.out.1.below H1.out.1.bel) HH.out.2.2.1 (by have := HH.out.2.2.2.2.1; omega)).mono ?_
    rintro e w1 ⟨rfl, b1⟩
    have k2 := stirL_ok s1 ks H1.out.2
    have E2 : Hid (stirL s1 ks = stirL (stirL dig0 (be (ks.length : Int) 4)) ks) := by rw [E1.out]; rfl
    generalize stirL s1 ks = s2 at k2 E2 ⊢
    obtain ⟨d0, d1, d2, d3⟩ := (H1.out.1.called b1).cells
    obtain ⟨f0, f1, f2, f3⟩ := (H1.out.1.called b1).free
    have H2 : Hid _ := And.intro ((H1.out.1.called b1).stored s2) k2
    clear b1 k2 c0 c1 c2 c3
    go_wp2_with fail
    go_at_call 69
    refine (stirD s2 H2.out.2 _ ds _ (HH.out.2.1.below H2.out.1.bel) HH.out.2.2.2.1 (by have := HH.out.2.2.2.2.2; omega)).mono ?_
    rintro e w2 ⟨rfl, b2⟩
    have k3 := stirL_ok s2 ds H2.out.2
    have E3 : Hid (stirL s2 ds = stirL (stirL (stirL dig0 (be (ks.length : Int) 4)) ks) ds) := by rw [E2.out]; rfl
    generalize stirL s2 ds = s3 at k3 E3 ⊢
    clear d0 d1 d2 d3 f0 f1 f2 f3
    obtain ⟨d0, d1, d2, d3⟩ := (H2.out.1.called b2).cells
    obtain ⟨f0, f1, f2, f3⟩ := (H2.out.1.called b2).free
    have H3 : Hid _ := And.intro ((H2.out.1.called b2).stored s3) k3
    clear b2 k3
    go_upto_region 5 with fail
    go_cut [] from 20 to 24 (fun wx => DigAt w wx (stirL s3 (be (nd : Int) 4)))
    case first =>
      have H4 : Hid _ := H3.out.1.drew
      go_region_with (first
        | (go_at_call 70; refine (digits 4 (nd : Int) _ ?_ ?_ ?_).mono ?_; omega; omega; decide; rintro e w4 ⟨r, rfl, o4, b4⟩; obtain ⟨g0, g1, g2, g3⟩ := (H4.out.called b4).cells)
        | (go_at_call 69; refine (stirD s3 H3.out.2 _ _ _ (row_of_owns o4) (be_bytes _ _) ?_).mono ?_; (rw [be_length]; decide); rintro e w5 ⟨rfl, b5⟩; obtain ⟨m0, m1, m2, m3⟩ := ((H4.out.called b4).called b5).cells; obtain ⟨n0, n1, n2, n3⟩ := ((H4.out.called b4).called b5).free))
      all_goals (go_wp2_with fail; go_meet; exact ((H4.out.called b4).called b5).stored _)
    case rest =>
      have k4 := stirL_ok s3 (be (nd : Int) 4) H3.out.2
      have E4 : Hid (stirL s3 (be (nd : Int) 4) = stirL (stirL (stirL (stirL dig0 (be (ks.length : Int) 4)) ks) ds) (be (ds.length : Int) 4)) := by rw [E3.out, HH.out.2.2.2.2.2]; rfl
      generalize stirL s3 (be (nd : Int) 4) = s4 at hcut k4 E4
      have H4 : Hid _ := And.intro hcut k4
      clear hcut k4 d0 d1 d2 d3 f0 f1 f2 f3
      go_wp2_with fail
      go_loopw [6] (fun i wr => ∃ k : Nat, k ≤ 16 ∧ i = .int .i64 (k : Int) ∧ DigAt w wr (stirL s4 (List.replicate k 165))) (fun i _ => 16 - (intOf i).toNat)
      case atStart => exact ⟨0, by omega, rfl, H4.out.1⟩
      case round =>
        obtain ⟨k, hk, rfl, st⟩ := hrel
        have ok := stirL_ok s4 (List.replicate k 165) H4.out.2
        by_cases hlt : k < 16
        · have es : stirL s4 (List.replicate (k + 1) 165) = stirL (stirL s4 (List.replicate k 165)) [165] := by rw [List.replicate_succ', stirL_append]
          generalize stirL s4 (List.replicate k 165) = t at st ok es
          obtain ⟨c0, c1, c2, c3⟩ := st.cells
          have HS : Hid _ := And.intro st (And.intro ok es)
          clear st ok es
          go_wp2_with fail
          go_at_call 69
          refine (stirD t HS.out.2.1 _ [165] _ (one_row wr 165) (by intro x hx; simp at hx; subst hx; decide) (by decide)).mono ?_
          rintro e w5 ⟨rfl, b5⟩
          have D5 := (HS.out.1.alloc _).called b5
          obtain ⟨m0, m1, m2, m3⟩ := D5.cells
          obtain ⟨n0, n1, n2, n3⟩ := D5.free
          have H5 : Hid _ := D5.stored (stirL t [165])
          clear D5 b5 c0 c1 c2 c3
          go_wp2
          go_roundw
          case rel =>
            refine ⟨k + 1, by omega, by go_num, ?_⟩
            rw [HS.out.2.2]
            exact H5.out
          case measure => simp [intOf]; omega
        · obtain rfl : k = 16 := by omega
          have ES : Hid (stirL s4 (List.replicate 16 165) = digS ks ds) := by rw [E4.out]; rfl
          have EV : Hid (digV ks ds = be (digS ks ds).a 4 ++ be (digS ks ds).b 4 ++ be (digS ks ds).c 4 ++ be (digS ks ds).d 4) := rfl
          rw [ES.out] at st ok
          generalize digS ks ds = t at st ok EV
          obtain ⟨⟨a0, a1⟩, ⟨b0, b1⟩, ⟨g0, g1⟩, ⟨d0, d1⟩⟩ := ok
          obtain ⟨c0, c1, c2, c3⟩ := st.cells
          have HS : Hid _ := st
          clear st E1 E2 E3 E4 ES H1 H2 H3 H4
          go_wp2_with fail
          go_at_call 70
          refine (digits 4 t.a _ a0 ?_ (by decide)).mono ?_
          · omega
          rintro e w6 ⟨r1, rfl, o1, b6⟩
          have H6 : Hid _ := HS.out.called b6
          have O1 : Hid _ := owns_mono o1 (base' := w.heap.size + 1) HS.out.lt
          clear o1 b6 c0 c1 c2 c3
          obtain ⟨c0, c1, c2, c3⟩ := (H6.out).cells
          go_wp2_with fail
          go_at_call 70
          refine (digits 4 t.b _ b0 ?_ (by decide)).mono ?_
          · omega
          rintro e w7 ⟨q7, rfl, o7, b7⟩
          obtain ⟨p7, cp7, rfl, _, _⟩ := owns_shape o7 (by decide)
          have H7 : Hid _ := (H6.out).called b7
          have oo := owns_below (O1.out) b7
          have hbs : w.heap.size + 1 ≤ w7.heap.size := H7.out.lt
          go_wp2_with (at_builtin; refine wpList_append_own _ rfl _ _ 22 rfl (w.heap.size + 1) 5 i0 (.int .u8 0) 1 1 Tryd.underlying22 hi hz0 hz1 hz2 rfl (by decide) _ _ _ rfl oo ⟨p7, 0, none⟩ 4 cp7 ((be t.b 4).map (Value.int .u8)) rfl o7.1 (pc_cells o7) (pc_one _ _) (by unfold maxLen; omega) (by omega) hbs ?_; intro v8 w8 o8 g8 _; obtain ⟨x8, y8, z8, u8⟩ := (H7.out.grown g8 (fun k hk => (oo.lt k hk).1)).cells)
          have H8 : Hid _ := H7.out.grown g8 (fun k hk => (oo.lt k hk).1)
          have O8 : Hid _ := o8
          clear oo o7 b7 hbs o8 g8 c0 c1 c2 c3
          go_at_call 70
          refine (digits 4 t.c _ g0 ?_ (by decide)).mono ?_
          · omega
          rintro e w9 ⟨q9, rfl, o9, b9⟩
          obtain ⟨p9, cp9, rfl, _, _⟩ := owns_shape o9 (by decide)
          have H9 : Hid _ := (H8.out).called b9
          have oo := owns_below (O8.out) b9
          have hbs : w.heap.size + 1 ≤ w9.heap.size := H9.out.lt
          go_wp2_with (at_builtin; refine wpList_append_own _ rfl _ _ 22 rfl (w.heap.size + 1) 5 i0 (.int .u8 0) 1 1 Tryd.underlying22 hi hz0 hz1 hz2 rfl (by decide) _ _ _ rfl oo ⟨p9, 0, none⟩ 4 cp9 ((be t.c 4).map (Value.int .u8)) rfl o9.1 (pc_cells o9) (pc_one _ _) (by unfold maxLen; omega) (by omega) hbs ?_; intro v10 w10 o10 g10 _; obtain ⟨x10, y10, z10, u10⟩ := (H9.out.grown g10 (fun k hk => (oo.lt k hk).1)).cells)
          have H10 : Hid _ := H9.out.grown g10 (fun k hk => (oo.lt k hk).1)
          have O10 : Hid _ := o10
          clear oo o9 b9 hbs o10 g10 x8 y8 z8 u8
          go_at_call 70
          refine (digits 4 t.d _ d0 ?_ (by decide)).mono ?_
          · omega
          rintro e w11 ⟨q11, rfl, o11, b11⟩
          obtain ⟨p11, cp11, rfl, _, _⟩ := owns_shape o11 (by decide)
          have H11 : Hid _ := (H10.out).called b11
          have oo := owns_below (O10.out) b11
          have hbs : w.heap.size + 1 ≤ w11.heap.size := H11.out.lt
          go_wp2_with (at_builtin; refine wpList_append_own _ rfl _ _ 22 rfl (w.heap.size + 1) 5 i0 (.int .u8 0) 1 1 Tryd.underlying22 hi hz0 hz1 hz2 rfl (by decide) _ _ _ rfl oo ⟨p11, 0, none⟩ 4 cp11 ((be t.d 4).map (Value.int .u8)) rfl o11.1 (pc_cells o11) (pc_one _ _) (by unfold maxLen; omega) (by omega) hbs ?_; intro v12 w12 o12 g12 _)
          have HF : Hid _ := And.intro o12 (H11.out.grown g12 (fun k hk => (oo.lt k hk).1)).bel
          clear oo o11 b11 hbs o12 g12
          go_wp2
          go_ret
          refine ⟨_, rfl, ?_, HF.out.2⟩
          rw [EV.out, List.map_append, List.map_append, List.map_append]
          exact owns_mono HF.out.1 (Nat.le_succ _)
end Go.Proofs.YtbbiinbjgognjaaDoor

namespace Go.Proofs.YtbbiinbjgognjaaDoor
open Go.RowKit
set_option linter.unusedVariables false

set_option maxRecDepth 20000 in
set_option maxHeartbeats 1000000 in
/-- Whether all ids are short enough. -/
theorem icids (vp : Value) (L : List (List Int)) (w : World) (hp : Parts w vp L) (lL : L.length ≤ 1000) (hs : ∀ j, (L.getD j []).length ≤ 9223372036854775807) :
    Calls Tryd.prog 33 #[vp] w fun e w' => e = .returned (.bool (decide (∀ j, j < L.length → (L.getD j []).length ≤ 8))) ∧ w' = w := by
  obtain ⟨p, capp, rfl, hpl, hpc⟩ := hp.at'
  obtain ⟨m, em⟩ : ∃ m, m = L.length := ⟨_, rfl⟩
  have HH : Hid _ := And.intro em (And.intro hs hpc)
  rw [← em] at lL ⊢
  clear em hs hp hpc
  go_enter Tryd.func33, Tryd.ntmps33
  go_wp2_with fail
  go_loopw [7] (fun i wr => ∃ k : Nat, k ≤ m ∧ i = .int .i64 (k : Int) ∧ wr = w ∧ ∀ j, j < k → (L.getD j []).length ≤ 8) (fun i _ => m - (intOf i).toNat)
  case atStart => exact ⟨0, by omega, rfl, rfl, fun j hj => by omega⟩
  case round =>
    obtain ⟨k, hk, rfl, ewr, st⟩ := hrel
    subst wr
    by_cases hlt : k < m
    · obtain ⟨v, hv, hr⟩ := HH.out.2.2 k (by have := HH.out.1; omega)
      obtain ⟨av, cpv, rfl⟩ := hr.form
      have hlx := HH.out.2.1 k
      have H4 : Hid _ := And.intro st True.intro
      clear hr st
      obtain ⟨nx, enx⟩ : ∃ q, q = (L.getD k []).length := ⟨_, rfl⟩
      rw [← enx] at hv hlx
      have EN : Hid _ := And.intro enx True.intro
      clear enx
      by_cases h8 : nx ≤ 8
      · go_wp2
        go_roundw
        case rel =>
          refine ⟨k + 1, by omega, by go_num, by trivial, fun j hj => ?_⟩
          by_cases hjk : j = k
          · subst hjk; rw [← EN.out.1]; exact h8
          · exact H4.out.1 j (by omega)
        case measure => simp [intOf]; omega
      · go_wp2
        go_ret
        have hd : decide (∀ j, j < m → (L.getD j []).length ≤ 8) = false := decide_eq_false (fun h => by have h2 := h k hlt; rw [← EN.out.1] at h2; exact h8 h2)
        exact ⟨by rw [hd]; rfl, by trivial⟩
    · obtain rfl : k = m := by omega
      have H4 : Hid _ := And.intro st True.intro
      clear st
      go_wp2
      go_ret
      have hd : decide (∀ j, j < k → (L.getD j []).length ≤ 8) = true := decide_eq_true H4.out.1
      exact ⟨by rw [hd]; rfl, by trivial⟩
end Go.Proofs.YtbbiinbjgognjaaDoor

namespace Go.Proofs.YtbbiinbjgognjaaDoor
open Go.RowKit
set_option linter.unusedVariables false
set_option linter.unusedSimpArgs false

theorem owns_take {w : World} {base g cap n m : Nat} {xs : List Int} (h : w.ownsRow base 5 1 (.slice (some ⟨g, 0, none⟩) n cap) n (xs.map (Value.int .u8))) (hm : m ≤ n) : w.ownsRow base 5 1 (.slice (some ⟨g, 0, none⟩) m cap) m ((xs.take m).map (Value.int .u8)) := by
  have hl : xs.length = n := by simpa using h.1
  refine ⟨by simp; omega, ?_⟩
  rcases h.2 with ⟨e, _⟩ | ⟨g', cap', cur, e, hb, hg, h1, h2, h3, h4⟩
  · cases e
  · cases e
    refine .inr ⟨g, cap, cur, rfl, hb, hg, by omega, h2, h3, ?_⟩
    have : cur.toList.take (m * 1) = (cur.toList.take (n * 1)).take (m * 1) := by rw [List.take_take]; congr 1; omega
    rw [this, h4, List.map_take]
    simp
/-- 'append(nil, make([]byte, n)...)': a new row of n zeros. -/
theorem run_append_zeros (w : World) (ty : TypeId) (n : Nat) (h0 : 0 < n) (h1 : n ≤ 1099511627776) :
    ∃ cap w', (Builtin.append_ #[22, 3] ty #[.slice none 0 0, .int .i64 (n : Int)]).run Tryd.prog w = .ok (.slice (some ⟨w.heap.size, 0, none⟩) n cap) w' ∧ w'.ownsRow w.heap.size 5 1 (.slice (some ⟨w.heap.size, 0, none⟩) 0 cap) 0 (([] : List Int).map (Value.int .u8)) ∧ cap ≤ 9223372036854775807 ∧ Below w.heap.size w w' := by
  obtain ⟨i, hi, hz, hs, hb⟩ := info_parts infoByte
  have hn : n ≠ 0 := by omega
  have h63' : ¬ (9223372036854775807 < (n : Int)) := by omega
  have h48' : ¬ (281474976710656 < Builtin.nextslicecap n 0 * i.bytes) := by rw [nextslicecap_zero h0, hb]; omega
  have hw : IntKind.i64.wrap (n : Int) = (n : Int) := by rw [IntKind.wrap_i64]; omega
  have hneg : ¬ ((n : Int) < 0) := by omega
  have hnt : ¬ ((n : Int) ≤ 0) := by omega
  have hmx : max (n : Int) 0 = (n : Int) := by omega
  have hbig : ¬ ((281474976710656 : Int) < (n : Int) * (i.bytes : Int)) := by rw [hb]; omega
  have hge := grownCap_ge w n 0 5
  have hcm : grownCap w n 0 5 ≤ maxLen := grownCap_le_maxLen w n 0 5 (by unfold maxLen; omega)
  have hne : n * i.size ≠ 0 := by rw [hs]; omega
  refine ⟨grownCap w n 0 5, w.drew.alloc (.cells (Builtin.zeroCells (Value.int .u8 0).cells n ++ Builtin.zeroCells (Value.int .u8 0).cells (grownCap w n 0 5 - n)) 5), ?_, ?_, ?_, ?_⟩
  · simp [Builtin.append_, run_underlying Tryd.underlying22, run_underlying Tryd.underlying3, sizeOf, typeInfo, zeroValue, hi, hz, hn, h63', h48', hw, hneg, hbig, hs, asInt, asIntOf, hnt, hmx, Question.forced, run_firstCells_none, newRow, grownCap]
  · refine ⟨by simp, .inr ⟨w.heap.size, _, _, rfl, Nat.le_refl _, heap_alloc_new w.drew _, Nat.zero_le _, hcm, ?_, by simp⟩⟩
    simp only [Array.size_append, size_zeroCells]
    have : (Value.int .u8 0).cells.size = 1 := by decide
    rw [this]; omega
  · unfold maxLen at hcm; omega
  · exact (below_drewN (Below.refl w.heap.size w) 1).alloc (Nat.le_refl _) _
theorem wpList_append_zeros {w : World} {ops : Array Oper} {rest : List Oper} {o : Oper} {a : Act} {Q : Exit → Act → World → Prop} (hgd : o.guard = none) (p q : Operand)
    (ho : o.op = .call { callee := .builtin .append, args := #[p, q], argTypes := #[22, 3] }) (n : Nat) (hp : a.eval p = .slice none 0 0) (hq : a.eval q = .int .i64 (n : Int)) (h0 : 0 < n) (h1 : n ≤ 1099511627776)
    (h : ∀ cap w', w'.ownsRow w.heap.size 5 1 (.slice (some ⟨w.heap.size, 0, none⟩) 0 cap) 0 (([] : List Int).map (Value.int .u8)) → cap ≤ 9223372036854775807 → Below w.heap.size w w' → wpList Tryd.prog ops Q rest (a.put o.dst (.slice (some ⟨w.heap.size, 0, none⟩) n cap)) w') :
    wpList Tryd.prog ops Q (o :: rest) a w := by
  obtain ⟨cap, w', hr, h2, h3, h4⟩ := run_append_zeros w o.type n h0 h1
  refine wpList_plain hgd fun K hK => ?_
  unfold Oper.wp execOp
  simp only [ho, resolve, invoke, builtin, Sem.run_bind, Sem.run_pure, Result.andThen_ok, List.map_toArray, List.map_cons, List.map_nil, hp, hq, hr]
  exact hK _ _ (h cap w' h2 h3 h4)
end Go.Proofs.YtbbiinbjgognjaaDoor

namespace Go.Proofs.YtbbiinbjgognjaaDoor
open Go.RowKit
set_option linter.unusedVariables false

def retryK : List Int := [114, 101, 116, 114, 121]
/-- The tag of a retry packet. -/
def retV (o p : List Int) : List Int := (digV retryK (((o.length : Int) :: o) ++ p)).take 8
theorem retV_length (o p : List Int) : (retV o p).length = 8 := by simp [retV, digV_length]
theorem retryK_bytes : Bytes retryK := by intro x hx; simp [retryK] at hx; omega
theorem bytes_cons {x : Int} {xs : List Int} (h0 : 0 ≤ x) (h1 : x < 256) (h : Bytes xs) : Bytes (x :: xs) := by
  intro y hy
  rcases List.mem_cons.1 hy with rfl | hy
  · exact ⟨h0, h1⟩
  · exact h y hy
theorem bytes_app {xs ys : List Int} (h : Bytes xs) (h2 : Bytes ys) : Bytes (xs ++ ys) := by
  intro y hy
  rcases List.mem_append.1 hy with hy | hy
  · exact h y hy
  · exact h2 y hy
theorem cut_cap {w : World} {base g cap n : Nat} {xs : List Value} (h : w.ownsRow base 5 1 (.slice (some ⟨g, 0, none⟩) n cap) n xs) : n ≤ cap ∧ cap ≤ 9223372036854775807 := by
  rcases h.2 with ⟨e, _⟩ | ⟨g', cap', cur, e, _, _, h1, h2, _⟩
  · cases e
  · cases e; unfold maxLen at h2; omega
theorem key_row {W : World} {p : Nat} (h : W.heap[p]? = some (.cells #[.int .u8 114, .int .u8 101, .int .u8 116, .int .u8 114, .int .u8 121] 5 (5, 6))) : Row W .u8 (.slice (some ⟨p, 0, none⟩) 5 5) retryK := by
  refine Or.inr ⟨p, 0, 5, rfl, (Array.getElem?_eq_some_iff.1 h).1, ⟨Nat.le_refl _, by unfold maxLen; decide⟩, fun j hj => ?_⟩
  rw [Nat.zero_add, blkS_cell h]
  rcases (show j = 0 ∨ j = 1 ∨ j = 2 ∨ j = 3 ∨ j = 4 by simp [retryK] at hj; omega) with rfl | rfl | rfl | rfl | rfl <;> rfl
theorem kconst (w : World) (C : Array Value) (n c : Nat) : (convert 22 22 (.slice (some ⟨w.heap.size, 0, none⟩) n c)).run Tryd.prog (w.alloc (.cells C 5)) = .ok (.slice (some ⟨w.heap.size, 0, none⟩) n c) (w.alloc (.cells C 5 (C.size, C.size + 1))) :=
  Lib.run_convert_bytes_const w 22 5 C n c Tryd.underlying22 Tryd.underlying5
set_option maxRecDepth 20000 in
set_option maxHeartbeats 2000000 in
theorem rtagC (ao ap : Option Addr) (n m po pp : Nat) (o p : List Int) (w : World) (ro : Row w .u8 (.slice ao n po) o) (rp : Row w .u8 (.slice ap m pp) p) (eo : o.length = n) (ep : p.length = m) (hn : n ≤ 8) (hm : m ≤ 4096) (bo : Bytes o) (bp : Bytes p) :
    Calls Tryd.prog 32 #[.slice ao n po, .slice ap m pp] w fun e w' => ∃ r, e = .returned r ∧ Row w' .u8 r (retV o p) ∧ Below w.heap.size w w' := by
  have e1 := wrap8 n hn
  have kc := kconst
  have b0 := (Below.refl w.heap.size w).alloc (Nat.le_refl _) (.cells #[.int .u8 (n : Int)] 5)
  have o0 : (w.alloc (.cells #[.int .u8 (n : Int)] 5)).ownsRow w.heap.size 5 1 (.slice (some ⟨w.heap.size, 0, none⟩) 1 1) 1 (([(n : Int)]).map (Value.int .u8)) := World.ownsRow_lit _ #[.int .u8 (n : Int)] 1 (Nat.le_refl _) (by decide) rfl
  have HH : Hid _ := And.intro ro (And.intro rp (And.intro eo (And.intro ep (And.intro o0 (And.intro b0 (And.intro bp (show Bytes ((n : Int) :: o) from bytes_cons (by omega) (by omega) bo)))))))
  clear ro rp eo ep b0 o0 bo bp
  go_enter Tryd.func32, Tryd.ntmps32
  go_wp2_with (first
    | (at_builtin; refine wpList_append_row rfl (.tmp 9) (.tmp 10) rfl w.heap.size _ 1 [(n : Int)] rfl HH.out.2.2.2.2.1 _ o rfl (HH.out.1.below HH.out.2.2.2.2.2.1) (by rw [HH.out.2.2.1]; omega) HH.out.2.2.2.2.2.1.size ?_; intro q2 w2 o2 g2; have H2 : Hid _ := And.intro o2 (HH.out.2.2.2.2.2.1.grown g2 HH.out.2.2.2.2.2.1.size (fun q hq => (HH.out.2.2.2.2.1.lt q hq).1)); have P2 : Hid _ := And.intro (H2.out.1.alloc (.cells #[.int .u8 114, .int .u8 101, .int .u8 116, .int .u8 114, .int .u8 121] 5 (5, 6))) (H2.out.2.alloc H2.out.2.size (.cells #[.int .u8 114, .int .u8 101, .int .u8 116, .int .u8 114, .int .u8 121] 5 (5, 6))); clear o2 g2)
    | (at_builtin; refine wpList_append_row rfl (.tmp 14) (.tmp 15) rfl w.heap.size q2 _ _ rfl P2.out.1 _ p rfl (HH.out.2.1.below P2.out.2) (by rw [HH.out.2.2.1, HH.out.2.2.2.1]; omega) P2.out.2.size ?_; intro q3 w3 o3 g3; have K3 : Hid (w3.heap[w2.heap.size]? = some (.cells #[.int .u8 114, .int .u8 101, .int .u8 116, .int .u8 114, .int .u8 121] 5 (5, 6))) := (g3.block w2.heap.size (by simp) (fun e => by have := (H2.out.1.lt w2.heap.size e.symm).2; omega)).trans (MapKept.heap_alloc w2 _).1; have H3 : Hid _ := And.intro o3 (P2.out.2.grown g3 P2.out.2.size (fun q hq => (P2.out.1.lt q hq).1)); clear o3 g3))
  go_at_call 50
  have ed : ([(n : Int)] ++ o) ++ p = ((o.length : Int) :: o) ++ p := by rw [HH.out.2.2.1]; rfl
  have rq := row_of_owns H3.out.1
  rw [ed] at rq
  refine (specDigest _ _ retryK (((o.length : Int) :: o) ++ p) _ (key_row K3.out) rq retryK_bytes (by have := HH.out.2.2.2.2.2.2.2; rw [← HH.out.2.2.1] at this; exact bytes_app this HH.out.2.2.2.2.2.2.1) (by decide) (by have h1 := HH.out.2.2.1; have h2 := HH.out.2.2.2.1; simp; omega)).mono ?_
  rintro e w4 ⟨q4, rfl, o4, b4⟩
  obtain ⟨g4, p4, rfl, _, _⟩ := owns_shape o4 (by decide)
  obtain ⟨hc1, hc2⟩ := cut_cap o4
  have hc8 : (8 : Int) ≤ (p4 : Int) := by omega
  have H4 : Hid _ := And.intro (row_of_owns (owns_take (m := 8) o4 (by decide))) (H3.out.2.trans (b4.mono H3.out.2.size))
  clear o4 b4 ed rq
  go_wp2
  go_ret
  exact ⟨_, rfl, H4.out.1, H4.out.2⟩
end Go.Proofs.YtbbiinbjgognjaaDoor

namespace Go.Proofs.YtbbiinbjgognjaaDoor
open Go.RowKit
set_option linter.unusedVariables false

theorem str_inj (xs ys : List Int) (hx : Bytes xs) (hy : Bytes ys) : strOfNums xs = strOfNums ys ↔ xs = ys := by
  constructor
  · intro h
    have h' : (strOfNums xs).data.toList = (strOfNums ys).data.toList := by rw [h]
    rw [strOfNums_data, strOfNums_data] at h'
    have hl : xs.length = ys.length := by simpa using congrArg List.length h'
    apply List.ext_getElem hl
    intro i h1 h2
    have := congrArg (·[i]?) h'
    simp only [List.getElem?_map, List.getElem?_eq_getElem h1, List.getElem?_eq_getElem h2, Option.map_some, Option.some.injEq] at this
    have a := hx _ (List.getElem_mem h1)
    have b := hy _ (List.getElem_mem h2)
    have t := congrArg UInt8.toNat this
    simp only [UInt8.toNat_ofNat'] at t
    omega
  · rintro rfl; rfl


/-- string(v) of a row of the call's own. -/
theorem conv_own {P : Program} {w : World} {base e n ts tstr : Nat} {v : Value} {xs : List Int} (hs : P.underlying ts = some (.slice e)) (he : P.underlying e = some (.int .u8)) (hd : P.underlying tstr = some .string)
    (h : w.ownsRow base e 1 v n (xs.map (Value.int .u8))) : (convert ts tstr v).run P w = .ok (.string (strOfNums xs)) w := by
  have hl : xs.length = n := by simpa using h.1
  rcases h.2 with ⟨rfl, h0⟩ | ⟨g, cap, cur, rfl, hg, hh, r⟩
  · subst h0
    obtain rfl : xs = [] := List.eq_nil_of_length_eq_zero hl
    rw [run_convert_bytes_nil w ts e hs he 0 0 tstr hd]
    rfl
  · exact run_convert_bytes_arg w ts e hs he g 0 n cap xs hl (fun i hi => by rw [Nat.zero_add]; exact owns_cell h hl hi) tstr hd
end Go.Proofs.YtbbiinbjgognjaaDoor

namespace Go.Proofs.YtbbiinbjgognjaaDoor
open Go.RowKit
set_option linter.unusedVariables false

theorem toList_loop (bs : ByteArray) (n : Nat) : ∀ (i : Nat) (r : List UInt8), bs.size - i = n → ByteArray.toList.loop bs i r = r.reverse ++ bs.data.toList.drop i := by
  have hsz : bs.data.toList.length = bs.size := by rw [Array.length_toList]; rfl
  induction n with
  | zero =>
    intro i r h
    rw [ByteArray.toList.loop, if_neg (by omega), List.drop_eq_nil_of_le (by omega)]
    simp
  | succ n ih =>
    intro i r h
    have hi : i < bs.data.toList.length := by omega
    rw [ByteArray.toList.loop, if_pos (by omega), ih (i + 1) _ (by omega), List.drop_eq_getElem_cons hi]
    have e : bs.get! i = bs.data.toList[i] := by
      have hi' : i < bs.data.size := by rw [← Array.length_toList]; exact hi
      show bs.data[i]! = _
      rw [getElem!_pos bs.data i hi', Array.getElem_toList]
    rw [e]
    simp
theorem toList_data (bs : ByteArray) : bs.toList = bs.data.toList := by
  have := toList_loop bs (bs.size - 0) 0 [] rfl
  unfold ByteArray.toList
  rw [this]
  simp
/-- Two unlike lists of bytes give two unlike texts. -/
theorem str_ne (xs ys : List Int) (hx : Bytes xs) (hy : Bytes ys) (h : xs ≠ ys) : ((strOfNums xs).toList == (strOfNums ys).toList) = false := by
  rw [beq_eq_false_iff_ne, toList_data, toList_data]
  intro e
  have : strOfNums xs = strOfNums ys := by
    cases hs : strOfNums xs with
    | mk a =>
      cases ht : strOfNums ys with
      | mk b =>
        rw [hs, ht] at e
        simp only at e
        congr 1
        exact Array.toList_inj.1 e
  exact h ((str_inj xs ys hx hy).1 this)
end Go.Proofs.YtbbiinbjgognjaaDoor

namespace Go.Proofs.YtbbiinbjgognjaaDoor
open Go.RowKit
set_option linter.unusedVariables false

end Go.Proofs.YtbbiinbjgognjaaDoor

namespace Go.Proofs.YtbbiinbjgognjaaDoor
open Go.RowKit
set_option linter.unusedVariables false

end Go.Proofs.YtbbiinbjgognjaaDoor

namespace Go.Proofs.YtbbiinbjgognjaaDoor
open Go.RowKit
set_option linter.unusedVariables false

/-- A list of lists of bytes, as a slice of slices holds it. -/
def SRow (w : World) (v : Value) (L : List (List Int)) : Prop :=
  (L = [] ∧ ∃ ao cap, v = .slice ao 0 cap) ∨
  (∃ b off cap, v = .slice (some ⟨b, off, none⟩) L.length cap ∧ b < w.heap.size ∧ ∀ j, j < L.length → ∃ u, w.cell? ⟨b, off + j, none⟩ = some u ∧ Row w .u8 u (L.getD j []))
theorem SRow.form {w : World} {v : Value} {L : List (List Int)} (h : SRow w v L) : ∃ ao cap, v = .slice ao L.length cap := by
  rcases h with ⟨rfl, ao, cap, rfl⟩ | ⟨b, off, cap, rfl, _⟩
  · exact ⟨ao, cap, rfl⟩
  · exact ⟨_, _, rfl⟩
theorem SRow.below {w w' : World} {v : Value} {L : List (List Int)} (h : SRow w v L) (hb : Below w.heap.size w w') : SRow w' v L := by
  rcases h with h | ⟨b, off, cap, rfl, hl, hc⟩
  · exact Or.inl h
  · refine Or.inr ⟨b, off, cap, rfl, by have := hb.size; omega, fun j hj => ?_⟩
    obtain ⟨u, hu, hr⟩ := hc j hj
    exact ⟨u, (hb.cell (p := ⟨b, off + j, none⟩) hl).trans hu, hr.below hb⟩
theorem SRow.at' {w : World} {v : Value} {L : List (List Int)} (h : SRow w v L) (h0 : 0 < L.length) : ∃ b off cap, v = .slice (some ⟨b, off, none⟩) L.length cap ∧ b < w.heap.size ∧ ∀ j, j < L.length → ∃ u, w.cell? ⟨b, off + j, none⟩ = some u ∧ Row w .u8 u (L.getD j []) := by
  rcases h with ⟨rfl, _⟩ | h
  · simp at h0
  · exact h
/-- The bytes of the first k lists. -/
def sumL (L : List (List Int)) (k : Nat) : Nat := (L.take k).flatten.length
theorem sumL_zero (L : List (List Int)) : sumL L 0 = 0 := by simp [sumL]
theorem sumL_succ (L : List (List Int)) (k : Nat) (h : k < L.length) : sumL L (k + 1) = sumL L k + (L.getD k []).length := by
  unfold sumL
  rw [List.take_add_one, List.flatten_append, List.length_append]
  simp [List.getD, h]
/-- What szByteSS takes off. -/
def sizeL (L : List (List Int)) : Nat := L.length + sumL L L.length
theorem sumL_mono (L : List (List Int)) (k : Nat) (h : k ≤ L.length) : sumL L k ≤ sumL L L.length := by
  unfold sumL
  rw [List.take_length]
  conv => rhs; rw [← List.take_append_drop k L]
  rw [List.flatten_append, List.length_append]
  omega

theorem ss_off {wx : World} {base g n i : Nat} {u v : Value} {xs : List Value} (ho : wx.ownsRow base 5 1 v n xs) (hb : g < base) : (wx.setCell ⟨g, i, none⟩ u).ownsRow base 5 1 v n xs :=
  (Only.setCell (w := wx) ⟨g, i, none⟩ u).owns ho (fun k hk e => by have := (ho.lt k hk).1; have := Option.some.inj e; simp only at this; omega)
theorem infoSl : (Tryd.prog.info? 22).map (fun i => (i.zero, i.size, i.bytes)) = some (some (.slice none 0 0), 1, 24) := by kernel_rfl
end Go.Proofs.YtbbiinbjgognjaaDoor

namespace Go.Proofs.YtbbiinbjgognjaaDoor
open Go.RowKit
set_option linter.unusedVariables false

/-- The place of the first list that is t, or -1. -/
structure IdxOut (L : List (List Int)) (t : List Int) (r : Int) : Prop where
  hit : ∀ k, k < L.length → L.getD k [] = t → (∀ j, j < k → L.getD j [] ≠ t) → r = (k : Int)
  miss : (∀ j, j < L.length → L.getD j [] ≠ t) → r = -1
theorem idx_ex (L : List (List Int)) (t : List Int) : ∃ r, IdxOut L t r := by
  by_cases h : ∃ k, k < L.length ∧ L.getD k [] = t
  · obtain ⟨k, ⟨hk, hm⟩⟩ := exists_least h
    refine ⟨(k : Int), ⟨fun j hj he hn => ?_, fun hn => absurd hk.2 (hn k hk.1)⟩⟩
    have h1 := hm j ⟨hj, he⟩
    rcases Nat.lt_or_ge k j with hlt | hge
    · exact absurd hk.2 (hn k hlt)
    · have : k = j := by omega
      rw [this]
  · exact ⟨-1, ⟨fun k hk he _ => absurd ⟨k, hk, he⟩ h, fun _ => rfl⟩⟩
theorem conv_rowR {P : Program} {w : World} {e ts tstr : Nat} {v : Value} {xs : List Int} (hs : P.underlying ts = some (.slice e)) (he : P.underlying e = some (.int .u8)) (hd : P.underlying tstr = some .string)
    (h : Row w .u8 v xs) (h0 : 0 < xs.length) : (convert ts tstr v).run P w = .ok (.string (strOfNums xs)) w := by
  obtain ⟨b, off, cap, rfl, hb, hc⟩ := h.at h0
  exact run_convert_bytes_arg w ts e hs he b off xs.length cap xs rfl hc tstr hd
end Go.Proofs.YtbbiinbjgognjaaDoor

namespace Go.Proofs.YtbbiinbjgognjaaDoor
open Go.RowKit
set_option linter.unusedVariables false

theorem HOwn.st8T {w : World} {base base' g : Nat} {v2 v3 v4 a0 a1 a2 a3 a4 a5 a6 a7 : Value} {h : H8} (k : HOwn w base v2 v3 v4 h) (hg : g < base) (hb : base' ≤ base) : HOwn (st8 w g a0 a1 a2 a3 a4 a5 a6 a7) base' v2 v3 v4 h :=
  ⟨owns_mono (st8_owns k.o0 hg) hb, owns_mono (st8_owns k.o1 hg) hb, owns_mono (st8_owns k.o2 hg) hb, k.a01, k.a02, k.a12⟩
theorem HOwn.belowR {w w' : World} {base : Nat} {v2 v3 v4 : Value} {h : H8} (k : HOwn w base v2 v3 v4 h) (hb : Below w.heap.size w w') : HOwn w' base v2 v3 v4 h :=
  ⟨owns_below k.o0 hb, owns_below k.o1 hb, owns_below k.o2 hb, k.a01, k.a02, k.a12⟩
theorem digV_bytesR (o p : List Int) : Bytes (retV o p) := fun x hx => digV_bytes _ _ x (List.mem_of_mem_take hx)

set_option maxRecDepth 200000 in
set_option maxHeartbeats 8000000 in
theorem roT_ok (b off q cap : Nat) (ap : Option Addr) (m cp : Nat) (K : PK) (xs o : List Int) (w : World) (hq : q ≤ 87) (hm : m ≤ 8) (hlie : Lies w b off (q + 8) cap xs) (hB : Bytes xs) (ro : Row w .u8 (.slice ap m cp) o) (eo : o.length = m) (bo : Bytes o) (hc : pk xs 0 = .ok K) (h3 : K.f = 3) (heq : retV o (xs.take q) = xs.drop q) :
    Calls Tryd.prog 20 #[.slice (some ⟨b, off, none⟩) (q + 8) cap, .slice ap m cp] w fun e w' => ∃ vd vs vt, e = .returned (.tuple #[.agg #[.int .i64 K.f, .int .i64 K.v, vd, vs, vt, .int .i64 0, .int .i64 0, .int .i64 0], .int .i64 0]) ∧ HOwn w' w.heap.size vd vs vt ⟨K.f, K.v, K.d, K.s, K.t, 0, 0, 0⟩ ∧ Below w.heap.size w w' := by
  have hb : Below w.heap.size w (w.alloc hd0) := (Below.refl _ _).alloc (Nat.le_refl _) _
  have hh := heap_alloc_new w hd0
  have hp := peekS (some ⟨b, off, none⟩) (q + 8) cap 0 xs (w.alloc hd0) (Or.inr ⟨b, off, rfl, hlie.below hb⟩) hlie.len hB (by omega) (by omega)
  have d : decide ((65536 : Int) < (q : Int) + 8) = false := decide_eq_false (by omega)
  have d1 : decide ((8 : Int) < (m : Int)) = false := decide_eq_false (by omega)
  have d3 : (K.f != 3) = false := by simp [h3]
  have hcap : cap ≤ 9223372036854775807 := Nat.le_trans hlie.most (by decide)
  have hfit : q + 8 ≤ cap := hlie.fits
  have hne : ¬ cap = q := by omega
  have hpn : (q : Int) ≤ (cap : Int) := by omega
  have hpn8 : (q : Int) ≤ (q : Int) + 8 := by omega
  have rP : Row w .u8 (.slice (some ⟨b, off, none⟩) q cap) (xs.take q) := by
    have := hlie.row 0 q (by omega)
    simpa using this
  have rT : Row w .u8 (.slice (some ⟨b, off + q, none⟩) 8 (cap - q)) (xs.drop q) := by
    have := hlie.row q 8 (by omega)
    rw [List.take_of_length_le (by rw [List.length_drop, hlie.len]; omega)] at this
    exact this
  have bP : Bytes (xs.take q) := fun x hx => hB x (List.mem_of_mem_take hx)
  have bT : Bytes (xs.drop q) := fun x hx => hB x (List.mem_of_mem_drop hx)
  have lP : (xs.take q).length = q := by rw [List.length_take, hlie.len]; omega
  have lT : (xs.drop q).length = 8 := by rw [List.length_drop, hlie.len]; omega
  have HE : Hid _ := And.intro hb (And.intro hh (And.intro hc (And.intro ro (And.intro rP (And.intro rT (And.intro bP (And.intro lP (And.intro lT (And.intro eo (And.intro bo (And.intro hm hq)))))))))))
  have HS : Hid _ := And.intro heq True.intro
  clear hb hh hm hlie hB hc h3 hq ro rP rT bP bT lP lT eo bo heq
  go_enter Tryd.func20, Tryd.ntmps20
  go_wp2_with fail
  go_at_call 27
  refine hp.mono ?_
  clear hp
  rintro e w1 ⟨b1, ⟨c', hc', _⟩ | ⟨K', vd, vs, vt, hc', rfl, ho⟩⟩
  · have h2 := HE.out.2.2.1.symm.trans hc'; cases h2
  obtain rfl : K = K' := by have h2 := HE.out.2.2.1.symm.trans hc'; cases h2; rfl
  clear hc'
  obtain ⟨da, dp, ed⟩ := (row_of_owns ho.o0).form
  obtain ⟨sa, sp, es⟩ := (row_of_owns ho.o1).form
  obtain ⟨ta, tp, et⟩ := (row_of_owns ho.o2).form
  dsimp only at ed es et
  subst ed es et
  have B1 : Below w.heap.size w w1 := HE.out.1.trans (b1.mono HE.out.1.size)
  have e1 := (b1.block w.heap.size (by simp)).trans HE.out.2.1
  have l1 : w.heap.size < w1.heap.size := (Array.getElem?_eq_some_iff.1 e1).1
  have A1 : Below w1.heap.size w1 (w1.alloc (.cells #[.int .i64 K.f, .int .i64 K.v, .slice da K.d.length dp, .slice sa K.s.length sp, .slice ta K.t.length tp, .int .i64 0, .int .i64 0, .int .i64 0] 24)) := (Below.refl _ _).alloc (Nat.le_refl _) _
  have kH : hdB (w1.alloc (.cells #[.int .i64 K.f, .int .i64 K.v, .slice da K.d.length dp, .slice sa K.s.length sp, .slice ta K.t.length tp, .int .i64 0, .int .i64 0, .int .i64 0] 24)) w1.heap.size (.int .i64 K.f) (.int .i64 K.v) (.slice da K.d.length dp) (.slice sa K.s.length sp) (.slice ta K.t.length tp) (.int .i64 0) (.int .i64 0) (.int .i64 0) := heap_alloc_new w1 _
  have k0 : hdB (w1.alloc (.cells #[.int .i64 K.f, .int .i64 K.v, .slice da K.d.length dp, .slice sa K.s.length sp, .slice ta K.t.length tp, .int .i64 0, .int .i64 0, .int .i64 0] 24)) w.heap.size (.int .i64 0) (.int .i64 0) (.slice none 0 0) (.slice none 0 0) (.slice none 0 0) (.int .i64 0) (.int .i64 0) (.int .i64 0) := (A1.block w.heap.size l1).trans e1
  have BW : Below w.heap.size w (w1.alloc (.cells #[.int .i64 K.f, .int .i64 K.v, .slice da K.d.length dp, .slice sa K.s.length sp, .slice ta K.t.length tp, .int .i64 0, .int .i64 0, .int .i64 0] 24)) := B1.trans (A1.mono B1.size)
  have ho2 := ho.belowR A1
  have lb : (w.alloc hd0).heap.size = w.heap.size + 1 := by simp
  rw [lb] at ho2
  have H0 : Hid _ := And.intro kH (And.intro k0 (And.intro BW ho2))
  clear kH k0 BW ho2 A1 e1 B1 ho b1 lb l1
  go_wp2_with fail
  generalize w1.alloc (.cells #[.int .i64 K.f, .int .i64 K.v, .slice da K.d.length dp, .slice sa K.s.length sp, .slice ta K.t.length tp, .int .i64 0, .int .i64 0, .int .i64 0] 24) = W1 at H0 ⊢
  have D : Below W1.heap.size W1 W1.drew := (Below.refl _ _).drew
  have BW : Below w.heap.size w W1.drew := H0.out.2.2.1.drew
  have CT := rtagC ap (some ⟨b, off, none⟩) m q cp cap o (xs.take q) W1.drew (HE.out.2.2.2.1.below BW) (HE.out.2.2.2.2.1.below BW) HE.out.2.2.2.2.2.2.2.2.2.1 HE.out.2.2.2.2.2.2.2.1 HE.out.2.2.2.2.2.2.2.2.2.2.2.1 (by have := HE.out.2.2.2.2.2.2.2.2.2.2.2.2; omega) HE.out.2.2.2.2.2.2.2.2.2.2.1 HE.out.2.2.2.2.2.2.1
  have v0 := conv_rowR Tryd.underlying22 Tryd.underlying5 Tryd.underlying9 (HE.out.2.2.2.2.2.1.below BW) (by have := HE.out.2.2.2.2.2.2.2.2.1; omega)
  have H1 : Hid _ := And.intro CT (And.intro ((D.block w1.heap.size (Array.getElem?_eq_some_iff.1 H0.out.1).1).trans H0.out.1) (And.intro ((D.block w.heap.size (Array.getElem?_eq_some_iff.1 H0.out.2.1).1).trans H0.out.2.1) (And.intro BW (H0.out.2.2.2.belowR D))))
  clear CT BW D H0

  go_region_with (first | (go_at_call 32; refine H1.out.1.mono ?_; rintro e w2 ⟨r, rfl, rr, b2⟩; obtain ⟨ra, rp, er⟩ := rr.form; rw [retV_length] at er; subst er; have v1 := conv_rowR Tryd.underlying22 Tryd.underlying5 Tryd.underlying9 rr (by rw [retV_length]; decide); have v2 := conv_rowR Tryd.underlying22 Tryd.underlying5 Tryd.underlying9 ((HE.out.2.2.2.2.2.1.below H1.out.2.2.2.1).below b2) (by have := HE.out.2.2.2.2.2.2.2.2.1; omega); rw [HS.out.1] at v1; have kH2 := (b2.block w1.heap.size (Array.getElem?_eq_some_iff.1 H1.out.2.1).1).trans H1.out.2.1; have k02 := (b2.block w.heap.size (Array.getElem?_eq_some_iff.1 H1.out.2.2.1).1).trans H1.out.2.2.1; have H2 : Hid _ := And.intro k02 (And.intro (H1.out.2.2.2.1.trans (b2.mono H1.out.2.2.2.1.size)) (H1.out.2.2.2.2.belowR b2)); obtain ⟨yc0, yc1, yc2, yc3, yc4, yc5, yc6, yc7⟩ := hdB_cells kH2; obtain ⟨zc0, zc1, zc2, zc3, zc4, zc5, zc6, zc7⟩ := hdB_cells k02; obtain ⟨zf0, zf1, zf2, zf3, zf4, zf5, zf6, zf7⟩ := hdB_free k02; clear kH2 k02 b2 rr))
  all_goals
    go_wp2_with fail
    refine bodyPost_ret (v := .tuple #[.agg #[.int .i64 K.f, .int .i64 K.v, .slice da K.d.length dp, .slice sa K.s.length sp, .slice ta K.t.length tp, .int .i64 0, .int .i64 0, .int .i64 0], .int .i64 0]) ?_ rfl ?_
    · exact results_row_tmp (t := 24) rfl _ _ w.heap.size _ (fr := (0, 0)) _ _ rfl rfl (st8_heap (a0 := .int .i64 K.f) (a1 := .int .i64 K.v) (a2 := .slice da K.d.length dp) (a3 := .slice sa K.s.length sp) (a4 := .slice ta K.t.length tp) (a5 := .int .i64 0) (a6 := .int .i64 0) (a7 := .int .i64 0) H2.out.1) Tryd.underlying24 rfl infoHd
    · exact ⟨_, _, _, rfl, H2.out.2.2.st8T (Nat.lt_succ_self _) (Nat.le_succ _), st8_below (a0 := .int .i64 K.f) (a1 := .int .i64 K.v) (a2 := .slice da K.d.length dp) (a3 := .slice sa K.s.length sp) (a4 := .slice ta K.t.length tp) (a5 := .int .i64 0) (a6 := .int .i64 0) (a7 := .int .i64 0) H2.out.2.1 (Nat.le_refl _)⟩
set_option maxRecDepth 200000 in
set_option maxHeartbeats 8000000 in
theorem roT_bad (b off q cap : Nat) (ap : Option Addr) (m cp : Nat) (K : PK) (xs o : List Int) (w : World) (hq : q ≤ 87) (hm : m ≤ 8) (hlie : Lies w b off (q + 8) cap xs) (hB : Bytes xs) (ro : Row w .u8 (.slice ap m cp) o) (eo : o.length = m) (bo : Bytes o) (hc : pk xs 0 = .ok K) (h3 : K.f = 3) (heq : retV o (xs.take q) ≠ xs.drop q) :
    Calls Tryd.prog 20 #[.slice (some ⟨b, off, none⟩) (q + 8) cap, .slice ap m cp] w fun e w' => e = .returned (.tuple #[.agg #[.int .i64 0, .int .i64 0, .slice none 0 0, .slice none 0 0, .slice none 0 0, .int .i64 0, .int .i64 0, .int .i64 0], .int .i64 13]) ∧ Below w.heap.size w w' := by
  have hb : Below w.heap.size w (w.alloc hd0) := (Below.refl _ _).alloc (Nat.le_refl _) _
  have hh := heap_alloc_new w hd0
  have hp := peekS (some ⟨b, off, none⟩) (q + 8) cap 0 xs (w.alloc hd0) (Or.inr ⟨b, off, rfl, hlie.below hb⟩) hlie.len hB (by omega) (by omega)
  have d : decide ((65536 : Int) < (q : Int) + 8) = false := decide_eq_false (by omega)
  have d1 : decide ((8 : Int) < (m : Int)) = false := decide_eq_false (by omega)
  have d3 : (K.f != 3) = false := by simp [h3]
  have hcap : cap ≤ 9223372036854775807 := Nat.le_trans hlie.most (by decide)
  have hfit : q + 8 ≤ cap := hlie.fits
  have hne : ¬ cap = q := by omega
  have hpn : (q : Int) ≤ (cap : Int) := by omega
  have hpn8 : (q : Int) ≤ (q : Int) + 8 := by omega
  have rP : Row w .u8 (.slice (some ⟨b, off, none⟩) q cap) (xs.take q) := by
    have := hlie.row 0 q (by omega)
    simpa using this
  have rT : Row w .u8 (.slice (some ⟨b, off + q, none⟩) 8 (cap - q)) (xs.drop q) := by
    have := hlie.row q 8 (by omega)
    rw [List.take_of_length_le (by rw [List.length_drop, hlie.len]; omega)] at this
    exact this
  have bP : Bytes (xs.take q) := fun x hx => hB x (List.mem_of_mem_take hx)
  have bT : Bytes (xs.drop q) := fun x hx => hB x (List.mem_of_mem_drop hx)
  have lP : (xs.take q).length = q := by rw [List.length_take, hlie.len]; omega
  have lT : (xs.drop q).length = 8 := by rw [List.length_drop, hlie.len]; omega
  have HE : Hid _ := And.intro hb (And.intro hh (And.intro hc (And.intro ro (And.intro rP (And.intro rT (And.intro bP (And.intro lP (And.intro lT (And.intro eo (And.intro bo (And.intro hm hq)))))))))))
  have hs := str_ne (retV o (xs.take q)) (xs.drop q) (digV_bytesR _ _) bT heq
  clear hb hh hm hlie hB hc h3 hq ro rP rT bP bT lP lT eo bo heq
  go_enter Tryd.func20, Tryd.ntmps20
  go_wp2_with fail
  go_at_call 27
  refine hp.mono ?_
  clear hp
  rintro e w1 ⟨b1, ⟨c', hc', _⟩ | ⟨K', vd, vs, vt, hc', rfl, ho⟩⟩
  · have h2 := HE.out.2.2.1.symm.trans hc'; cases h2
  obtain rfl : K = K' := by have h2 := HE.out.2.2.1.symm.trans hc'; cases h2; rfl
  clear hc'
  obtain ⟨da, dp, ed⟩ := (row_of_owns ho.o0).form
  obtain ⟨sa, sp, es⟩ := (row_of_owns ho.o1).form
  obtain ⟨ta, tp, et⟩ := (row_of_owns ho.o2).form
  dsimp only at ed es et
  subst ed es et
  have B1 : Below w.heap.size w w1 := HE.out.1.trans (b1.mono HE.out.1.size)
  have e1 := (b1.block w.heap.size (by simp)).trans HE.out.2.1
  have l1 : w.heap.size < w1.heap.size := (Array.getElem?_eq_some_iff.1 e1).1
  have A1 : Below w1.heap.size w1 (w1.alloc (.cells #[.int .i64 K.f, .int .i64 K.v, .slice da K.d.length dp, .slice sa K.s.length sp, .slice ta K.t.length tp, .int .i64 0, .int .i64 0, .int .i64 0] 24)) := (Below.refl _ _).alloc (Nat.le_refl _) _
  have kH : hdB (w1.alloc (.cells #[.int .i64 K.f, .int .i64 K.v, .slice da K.d.length dp, .slice sa K.s.length sp, .slice ta K.t.length tp, .int .i64 0, .int .i64 0, .int .i64 0] 24)) w1.heap.size (.int .i64 K.f) (.int .i64 K.v) (.slice da K.d.length dp) (.slice sa K.s.length sp) (.slice ta K.t.length tp) (.int .i64 0) (.int .i64 0) (.int .i64 0) := heap_alloc_new w1 _
  have k0 : hdB (w1.alloc (.cells #[.int .i64 K.f, .int .i64 K.v, .slice da K.d.length dp, .slice sa K.s.length sp, .slice ta K.t.length tp, .int .i64 0, .int .i64 0, .int .i64 0] 24)) w.heap.size (.int .i64 0) (.int .i64 0) (.slice none 0 0) (.slice none 0 0) (.slice none 0 0) (.int .i64 0) (.int .i64 0) (.int .i64 0) := (A1.block w.heap.size l1).trans e1
  have BW : Below w.heap.size w (w1.alloc (.cells #[.int .i64 K.f, .int .i64 K.v, .slice da K.d.length dp, .slice sa K.s.length sp, .slice ta K.t.length tp, .int .i64 0, .int .i64 0, .int .i64 0] 24)) := B1.trans (A1.mono B1.size)
  have ho2 := ho.belowR A1
  have lb : (w.alloc hd0).heap.size = w.heap.size + 1 := by simp
  rw [lb] at ho2
  have H0 : Hid _ := And.intro kH (And.intro k0 (And.intro BW ho2))
  clear kH k0 BW ho2 A1 e1 B1 ho b1 lb l1
  go_wp2_with fail
  generalize w1.alloc (.cells #[.int .i64 K.f, .int .i64 K.v, .slice da K.d.length dp, .slice sa K.s.length sp, .slice ta K.t.length tp, .int .i64 0, .int .i64 0, .int .i64 0] 24) = W1 at H0 ⊢
  have D : Below W1.heap.size W1 W1.drew := (Below.refl _ _).drew
  have BW : Below w.heap.size w W1.drew := H0.out.2.2.1.drew
  have CT := rtagC ap (some ⟨b, off, none⟩) m q cp cap o (xs.take q) W1.drew (HE.out.2.2.2.1.below BW) (HE.out.2.2.2.2.1.below BW) HE.out.2.2.2.2.2.2.2.2.2.1 HE.out.2.2.2.2.2.2.2.1 HE.out.2.2.2.2.2.2.2.2.2.2.2.1 (by have := HE.out.2.2.2.2.2.2.2.2.2.2.2.2; omega) HE.out.2.2.2.2.2.2.2.2.2.2.1 HE.out.2.2.2.2.2.2.1
  have v0 := conv_rowR Tryd.underlying22 Tryd.underlying5 Tryd.underlying9 (HE.out.2.2.2.2.2.1.below BW) (by have := HE.out.2.2.2.2.2.2.2.2.1; omega)
  have H1 : Hid _ := And.intro CT (And.intro ((D.block w1.heap.size (Array.getElem?_eq_some_iff.1 H0.out.1).1).trans H0.out.1) (And.intro ((D.block w.heap.size (Array.getElem?_eq_some_iff.1 H0.out.2.1).1).trans H0.out.2.1) (And.intro BW (H0.out.2.2.2.belowR D))))
  clear CT BW D H0

  go_region_with (first | (go_at_call 32; refine H1.out.1.mono ?_; rintro e w2 ⟨r, rfl, rr, b2⟩; obtain ⟨ra, rp, er⟩ := rr.form; rw [retV_length] at er; subst er; have v1 := conv_rowR Tryd.underlying22 Tryd.underlying5 Tryd.underlying9 rr (by rw [retV_length]; decide); have v2 := conv_rowR Tryd.underlying22 Tryd.underlying5 Tryd.underlying9 ((HE.out.2.2.2.2.2.1.below H1.out.2.2.2.1).below b2) (by have := HE.out.2.2.2.2.2.2.2.2.1; omega); have kH2 := (b2.block w1.heap.size (Array.getElem?_eq_some_iff.1 H1.out.2.1).1).trans H1.out.2.1; have k02 := (b2.block w.heap.size (Array.getElem?_eq_some_iff.1 H1.out.2.2.1).1).trans H1.out.2.2.1; have H2 : Hid _ := And.intro k02 (And.intro (H1.out.2.2.2.1.trans (b2.mono H1.out.2.2.2.1.size)) (H1.out.2.2.2.2.belowR b2)); obtain ⟨yc0, yc1, yc2, yc3, yc4, yc5, yc6, yc7⟩ := hdB_cells kH2; obtain ⟨zc0, zc1, zc2, zc3, zc4, zc5, zc6, zc7⟩ := hdB_cells k02; obtain ⟨zf0, zf1, zf2, zf3, zf4, zf5, zf6, zf7⟩ := hdB_free k02; clear kH2 k02 b2 rr))
  all_goals
    go_wp2_with fail
    refine bodyPost_ret (v := .tuple #[.agg #[.int .i64 0, .int .i64 0, .slice none 0 0, .slice none 0 0, .slice none 0 0, .int .i64 0, .int .i64 0, .int .i64 0], .int .i64 13]) ?_ rfl ?_
    · exact results_row_tmp (t := 24) rfl _ _ w.heap.size _ (fr := (0, 0)) _ _ rfl rfl (st8_heap (a0 := .int .i64 0) (a1 := .int .i64 0) (a2 := .slice none 0 0) (a3 := .slice none 0 0) (a4 := .slice none 0 0) (a5 := .int .i64 0) (a6 := .int .i64 0) (a7 := .int .i64 0) H2.out.1) Tryd.underlying24 rfl infoHd
    · exact ⟨rfl, st8_below (a0 := .int .i64 0) (a1 := .int .i64 0) (a2 := .slice none 0 0) (a3 := .slice none 0 0) (a4 := .slice none 0 0) (a5 := .int .i64 0) (a6 := .int .i64 0) (a7 := .int .i64 0) H2.out.2.1 (Nat.le_refl _)⟩
end Go.Proofs.YtbbiinbjgognjaaDoor

namespace Go.Proofs.YtbbiinbjgognjaaDoor
open Go.RowKit
set_option linter.unusedVariables false

theorem ro_cids (n : Nat) (cs : List Int) (e : cs.length = n) : (decide (∀ j, j < ([cs] : List (List Int)).length → (([cs] : List (List Int)).getD j []).length ≤ 8)) = decide (n ≤ 8) := by
  rw [decide_eq_decide]
  constructor
  · intro h; have := h 0 (by simp); simpa [e] using this
  · intro h j hj
    obtain rfl : j = 0 := by simp at hj; omega
    simpa [e] using h
theorem ro_cids_len (cs : List Int) (h : cs.length ≤ 9223372036854775807) (j : Nat) : (([cs] : List (List Int)).getD j []).length ≤ 9223372036854775807 := by
  match j with
  | 0 => exact h
  | n + 1 => simp [List.getD]
set_option maxRecDepth 20000 in
set_option maxHeartbeats 400000 in
theorem roI_long (ao ap : Option Addr) (n cap m cp : Nat) (w : World) (hn : n ≤ 9223372036854775807) (h : 65536 < n) :
    Calls Tryd.prog 21 #[.slice ao n cap, .slice ap m cp] w fun e w' => e = .returned (.tuple #[.agg #[.int .i64 0, .int .i64 0, .slice none 0 0, .slice none 0 0, .slice none 0 0, .int .i64 0, .int .i64 0, .int .i64 0], .int .i64 4]) ∧ Below w.heap.size w w' := by
  have hb : Below w.heap.size w (w.alloc hd0) := (Below.refl _ _).alloc (Nat.le_refl _) _
  have hh := heap_alloc_new w hd0
  have d : decide ((65536 : Int) < (n : Int)) = true := decide_eq_true (by omega)
  have HE : Hid _ := And.intro hb hh
  clear hb hh hn h
  go_enter Tryd.func21, Tryd.ntmps21
  go_wp2_with fail
  refine bodyPost_ret (v := .tuple #[.agg #[.int .i64 0, .int .i64 0, .slice none 0 0, .slice none 0 0, .slice none 0 0, .int .i64 0, .int .i64 0, .int .i64 0], .int .i64 4]) ?_ rfl ?_
  · exact results_row_tmp (t := 24) rfl _ _ w.heap.size _ (fr := (0, 0)) _ _ rfl rfl HE.out.2 Tryd.underlying24 rfl infoHd
  · exact ⟨rfl, HE.out.1⟩

theorem ro_w2 (ap : Option Addr) (m cp : Nat) (w : World) : Below w.heap.size w ((w.alloc hd0).alloc (.cells #[.slice ap m cp] 22)) ∧ hdB ((w.alloc hd0).alloc (.cells #[.slice ap m cp] 22)) w.heap.size (.int .i64 0) (.int .i64 0) (.slice none 0 0) (.slice none 0 0) (.slice none 0 0) (.int .i64 0) (.int .i64 0) (.int .i64 0) := by
  have hb : Below w.heap.size w (w.alloc hd0) := (Below.refl _ _).alloc (Nat.le_refl _) _
  refine ⟨hb.alloc hb.size _, ?_⟩
  exact (Below.heap_alloc _ _ _ (by simp)).trans (heap_alloc_new w hd0)
theorem ro_cidsC (ap : Option Addr) (m cp : Nat) (o : List Int) (w : World) (ro : Row w .u8 (.slice ap m cp) o) (eo : o.length = m) (hm : m ≤ 9223372036854775807) :
    Calls Tryd.prog 33 #[.slice (some ⟨w.heap.size + 1, 0, none⟩) 1 1] ((w.alloc hd0).alloc (.cells #[.slice ap m cp] 22)) fun e w' => e = .returned (.bool (decide (m ≤ 8))) ∧ w' = ((w.alloc hd0).alloc (.cells #[.slice ap m cp] 22)) := by
  have hb : Below w.heap.size w (w.alloc hd0) := (Below.refl _ _).alloc (Nat.le_refl _) _
  have C := icids _ [o] _ (parts1 (ro.below hb) 22) (by simp) (ro_cids_len o (by rw [eo]; exact hm))
  rw [ro_cids m o eo] at C
  have hs : (w.alloc hd0).heap.size = w.heap.size + 1 := by simp
  rw [hs] at C
  exact C
set_option maxRecDepth 20000 in
set_option maxHeartbeats 400000 in
theorem roI_bad (ao ap : Option Addr) (n cap m cp : Nat) (o : List Int) (w : World) (hn : n ≤ 65536) (ro : Row w .u8 (.slice ap m cp) o) (eo : o.length = m) (hm : m ≤ 9223372036854775807) (h : 8 < m) :
    Calls Tryd.prog 21 #[.slice ao n cap, .slice ap m cp] w fun e w' => e = .returned (.tuple #[.agg #[.int .i64 0, .int .i64 0, .slice none 0 0, .slice none 0 0, .slice none 0 0, .int .i64 0, .int .i64 0, .int .i64 0], .int .i64 1]) ∧ Below w.heap.size w w' := by
  have C := ro_cidsC ap m cp o w ro eo hm
  rw [decide_eq_false (by omega)] at C
  obtain ⟨kb, k0⟩ := ro_w2 ap m cp w
  have d : decide ((65536 : Int) < (n : Int)) = false := decide_eq_false (by omega)
  obtain ⟨zc0, zc1, zc2, zc3, zc4, zc5, zc6, zc7⟩ := hdB_cells k0
  obtain ⟨zf0, zf1, zf2, zf3, zf4, zf5, zf6, zf7⟩ := hdB_free k0
  have HQ : Hid _ := And.intro k0 kb
  clear k0 kb hn ro eo hm h
  go_enter Tryd.func21, Tryd.ntmps21
  go_wp2_with fail
  go_at_call 33
  refine C.mono ?_
  rintro e w1 ⟨rfl, hw⟩
  subst w1
  go_wp2_with fail
  refine bodyPost_ret (v := .tuple #[.agg #[.int .i64 0, .int .i64 0, .slice none 0 0, .slice none 0 0, .slice none 0 0, .int .i64 0, .int .i64 0, .int .i64 0], .int .i64 1]) ?_ rfl ?_
  · exact results_row_tmp (t := 24) rfl _ _ w.heap.size _ (fr := (0, 0)) _ _ rfl rfl HQ.out.1 Tryd.underlying24 rfl infoHd
  · exact ⟨rfl, HQ.out.2⟩


set_option maxRecDepth 20000 in
set_option maxHeartbeats 400000 in
theorem roI_form (ao ap : Option Addr) (n cap m cp : Nat) (K : PK) (o : List Int) (w : World) (hn : n ≤ 65536) (ro : Row w .u8 (.slice ap m cp) o) (eo : o.length = m) (hm : m ≤ 8) (h3 : K.f ≠ 3)
    (hp : Calls Tryd.prog 28 #[.slice ao n cap, .int .i64 0] ((w.alloc hd0).alloc (.cells #[.slice ap m cp] 22)) fun e w' => Below ((w.alloc hd0).alloc (.cells #[.slice ap m cp] 22)).heap.size ((w.alloc hd0).alloc (.cells #[.slice ap m cp] 22)) w' ∧ ∃ vd vs vt vv, e = .returned (.tuple #[.agg (pkA K vd vs vt vv), .nilIface]) ∧ HOwn w' ((w.alloc hd0).alloc (.cells #[.slice ap m cp] 22)).heap.size vd vs vt ⟨K.f, K.v, K.d, K.s, K.t, 0, 0, 0⟩ ∧ w'.ownsRow ((w.alloc hd0).alloc (.cells #[.slice ap m cp] 22)).heap.size 3 1 vv K.vers.length (K.vers.map (Value.int .i64))) :
    Calls Tryd.prog 21 #[.slice ao n cap, .slice ap m cp] w fun e w' => e = .returned (.tuple #[.agg #[.int .i64 0, .int .i64 0, .slice none 0 0, .slice none 0 0, .slice none 0 0, .int .i64 0, .int .i64 0, .int .i64 0], .int .i64 3]) ∧ Below w.heap.size w w' := by
  have C := ro_cidsC ap m cp o w ro eo (by omega)
  rw [decide_eq_true (by omega)] at C
  obtain ⟨kb0, k00⟩ := ro_w2 ap m cp w
  have d : decide ((65536 : Int) < (n : Int)) = false := decide_eq_false (by omega)
  have d3 : (K.f != 3) = true := by simp [h3]
  have HE : Hid _ := And.intro kb0 k00
  clear kb0 k00 hn ro eo hm h3
  go_enter Tryd.func21, Tryd.ntmps21
  go_wp2_with fail
  go_at_call 33
  refine C.mono ?_
  rintro e w1 ⟨rfl, hw⟩
  subst w1
  go_wp2_with fail
  go_at_call 28
  refine hp.mono ?_
  rintro e w1 ⟨b1, vd, vs, vt, vv, rfl, q2, q3⟩
  obtain ⟨da, dp, ed⟩ := (row_of_owns q2.o0).form
  obtain ⟨sa, sp, es⟩ := (row_of_owns q2.o1).form
  obtain ⟨ta, tp, et⟩ := (row_of_owns q2.o2).form
  obtain ⟨va, vp, ev⟩ := (row_of_owns (k := .i64) q3).form
  dsimp only at ed es et
  subst ed es et ev
  have e1 := (b1.block w.heap.size (by have := HE.out.2; exact (Array.getElem?_eq_some_iff.1 this).1)).trans HE.out.2
  have k0 : hdB (w1.alloc (.cells (pkA K (.slice da K.d.length dp) (.slice sa K.s.length sp) (.slice ta K.t.length tp) (.slice va K.vers.length vp)) 46)) w.heap.size (.int .i64 0) (.int .i64 0) (.slice none 0 0) (.slice none 0 0) (.slice none 0 0) (.int .i64 0) (.int .i64 0) (.int .i64 0) := (Below.heap_alloc _ _ _ ((Array.getElem?_eq_some_iff.1 e1).1)).trans e1
  have kb : ∀ o, Below w.heap.size w (w1.alloc o) := fun o => by
    have h1 := HE.out.1.trans (b1.mono HE.out.1.size)
    exact h1.alloc h1.size o
  unfold pkA at k0 ⊢
  obtain ⟨zc0, zc1, zc2, zc3, zc4, zc5, zc6, zc7⟩ := hdB_cells k0
  obtain ⟨zf0, zf1, zf2, zf3, zf4, zf5, zf6, zf7⟩ := hdB_free k0
  have HQ : Hid _ := And.intro (st8_heap (a0 := .int .i64 0) (a1 := .int .i64 0) (a2 := .slice none 0 0) (a3 := .slice none 0 0) (a4 := .slice none 0 0) (a5 := .int .i64 0) (a6 := .int .i64 0) (a7 := .int .i64 0) k0) (fun o => st8_below (a0 := .int .i64 0) (a1 := .int .i64 0) (a2 := .slice none 0 0) (a3 := .slice none 0 0) (a4 := .slice none 0 0) (a5 := .int .i64 0) (a6 := .int .i64 0) (a7 := .int .i64 0) (kb o) (Nat.le_refl w.heap.size))
  clear k0 kb b1 hp q2 q3 e1 C
  go_wp2_with fail
  refine bodyPost_ret (v := .tuple #[.agg #[.int .i64 0, .int .i64 0, .slice none 0 0, .slice none 0 0, .slice none 0 0, .int .i64 0, .int .i64 0, .int .i64 0], .int .i64 3]) ?_ rfl ?_
  · exact results_row_tmp (t := 24) rfl _ _ w.heap.size _ (fr := (0, 0)) _ _ rfl rfl HQ.out.1 Tryd.underlying24 rfl infoHd
  · exact ⟨rfl, HQ.out.2 _⟩

set_option maxRecDepth 20000 in
set_option maxHeartbeats 400000 in
theorem roI_err (ao ap : Option Addr) (n cap m cp : Nat) (c : Int) (o : List Int) (w : World) (he : errT w) (hn : n ≤ 65536) (ro : Row w .u8 (.slice ap m cp) o) (eo : o.length = m) (hm : m ≤ 8)
    (hp : Calls Tryd.prog 28 #[.slice ao n cap, .int .i64 0] ((w.alloc hd0).alloc (.cells #[.slice ap m cp] 22)) fun e w' => Below ((w.alloc hd0).alloc (.cells #[.slice ap m cp] 22)).heap.size ((w.alloc hd0).alloc (.cells #[.slice ap m cp] 22)) w' ∧ e = .returned (.tuple #[.agg #[.int .i64 0, .int .i64 0, .slice none 0 0, .slice none 0 0, .slice none 0 0, .int .i64 0, .int .i64 0, .int .i64 0, .slice none 0 0, .int .i64 0, .int .i64 0], faultV c])) :
    Calls Tryd.prog 21 #[.slice ao n cap, .slice ap m cp] w fun e w' => e = .returned (.tuple #[.agg #[.int .i64 0, .int .i64 0, .slice none 0 0, .slice none 0 0, .slice none 0 0, .int .i64 0, .int .i64 0, .int .i64 0], .int .i64 c]) ∧ Below w.heap.size w w' := by
  have C := ro_cidsC ap m cp o w ro eo (by omega)
  rw [decide_eq_true (by omega)] at C
  obtain ⟨kb0, k00⟩ := ro_w2 ap m cp w
  have d : decide ((65536 : Int) < (n : Int)) = false := decide_eq_false (by omega)
  have HE : Hid _ := And.intro kb0 (And.intro k00 he)
  clear kb0 k00 hn ro eo hm he
  go_enter Tryd.func21, Tryd.ntmps21
  go_wp2_with fail
  go_at_call 33
  refine C.mono ?_
  rintro e w1 ⟨rfl, hw⟩
  subst w1
  go_wp2_with fail
  go_at_call 28
  refine hp.mono ?_
  rintro e w1 ⟨b1, rfl⟩
  have e1 := (b1.block w.heap.size (by have := HE.out.2.1; exact (Array.getElem?_eq_some_iff.1 this).1)).trans HE.out.2.1
  have k1 : ∀ o, hdB (w1.alloc o) w.heap.size (.int .i64 0) (.int .i64 0) (.slice none 0 0) (.slice none 0 0) (.slice none 0 0) (.int .i64 0) (.int .i64 0) (.int .i64 0) := fun o => (Below.heap_alloc _ _ _ ((Array.getElem?_eq_some_iff.1 e1).1)).trans e1
  have ba : ∀ o, Below w.heap.size w (w1.alloc o) := fun o => by
    have h1 := HE.out.1.trans (b1.mono HE.out.1.size)
    exact h1.alloc h1.size o
  have hcd : ∀ o, _ := fun o => codeC_fault c (w1.alloc o) (HE.out.2.2.below (ba o) HE.out.2.2.lt)
  have HB : Hid _ := And.intro k1 ba
  clear k1 ba b1 e1 hp C
  unfold faultV at hcd ⊢
  go_wp2_with fail
  go_at_call 29
  refine (hcd _).mono ?_
  rintro e w2 ⟨rfl, b2⟩
  have k0 : hdB w2 w.heap.size (.int .i64 0) (.int .i64 0) (.slice none 0 0) (.slice none 0 0) (.slice none 0 0) (.int .i64 0) (.int .i64 0) (.int .i64 0) := (b2.block w.heap.size ((Array.getElem?_eq_some_iff.1 (HB.out.1 _)).1)).trans (HB.out.1 _)
  have kb : Below w.heap.size w w2 := (HB.out.2 _).trans (b2.mono (HB.out.2 _).size)
  obtain ⟨zc0, zc1, zc2, zc3, zc4, zc5, zc6, zc7⟩ := hdB_cells k0
  obtain ⟨zf0, zf1, zf2, zf3, zf4, zf5, zf6, zf7⟩ := hdB_free k0
  have HQ : Hid _ := And.intro (st8_heap (a0 := .int .i64 0) (a1 := .int .i64 0) (a2 := .slice none 0 0) (a3 := .slice none 0 0) (a4 := .slice none 0 0) (a5 := .int .i64 0) (a6 := .int .i64 0) (a7 := .int .i64 0) k0) (st8_below (a0 := .int .i64 0) (a1 := .int .i64 0) (a2 := .slice none 0 0) (a3 := .slice none 0 0) (a4 := .slice none 0 0) (a5 := .int .i64 0) (a6 := .int .i64 0) (a7 := .int .i64 0) kb (Nat.le_refl w.heap.size))
  clear k0 kb b2 hcd
  go_wp2_with fail
  refine bodyPost_ret (v := .tuple #[.agg #[.int .i64 0, .int .i64 0, .slice none 0 0, .slice none 0 0, .slice none 0 0, .int .i64 0, .int .i64 0, .int .i64 0], .int .i64 c]) ?_ rfl ?_
  · exact results_row_tmp (t := 24) rfl _ _ w.heap.size _ (fr := (0, 0)) _ _ rfl rfl HQ.out.1 Tryd.underlying24 rfl infoHd
  · exact ⟨rfl, HQ.out.2⟩
end Go.Proofs.YtbbiinbjgognjaaDoor

namespace Go.Proofs.YtbbiinbjgognjaaDoor
open Go.RowKit
set_option linter.unusedVariables false

theorem only_setRow (w : World) (g : Nat) (cs : Array Value) : Only (some g) w (w.setRow g cs) :=
  ⟨rfl, rfl, rfl, by simp [World.setRow], fun k hk => setRow_other w g k cs (fun e => hk (by rw [e]))⟩
theorem Only.drew {g : Option Nat} {w w' : World} (h : Only g w w') : Only g w w'.drew := ⟨h.1, h.2, h.3, h.4, h.5⟩
theorem Only.below {g : Nat} {w w' : World} (h : Only (some g) w w') {B : Nat} (hB : B ≤ g) : Below B w w' :=
  ⟨h.os, h.tape, h.output, Nat.le_of_eq h.size.symm, fun k hk => h.block k (fun e => by cases e; omega)⟩
theorem cell_of_heap {w w' : World} {b : Nat} (h : w'.heap[b]? = w.heap[b]?) (o : Nat) : w'.cell? ⟨b, o, none⟩ = w.cell? ⟨b, o, none⟩ := by
  simp [World.cell?, h]
/-- What was read is read where its block has not turned. -/
theorem Row.only {w w' : World} {g : Nat} {v : Value} {xs : List Int} (h : Row w .u8 v xs) (ho : Only (some g) w w') (hg : v.ownBlock ≠ some g) : Row w' .u8 v xs := by
  rcases h with h | ⟨b, off, cap, rfl, hb, hcap, hc⟩
  · exact Or.inl h
  · exact Or.inr ⟨b, off, cap, rfl, by rw [ho.size]; exact hb, hcap, fun j hj => (cell_of_heap (ho.block b (fun e => hg (by cases e; rfl))) _).trans (hc j hj)⟩
/-- The cells of a reading, as a copy's source. -/
theorem row_src {w : World} {v : Value} {xs : List Int} (h : Row w .u8 v xs) (h0 : 0 < xs.length) (m : Nat) (hm : m ≤ xs.length) :
    ∃ ad cap, v = .slice (some ad) xs.length cap ∧ ∀ j u, ((xs.take m).map (Value.int .u8))[j]? = some u → w.cell? (ad.add j) = some u := by
  obtain ⟨b, off, cap, rfl, hb, hc⟩ := h.at h0
  refine ⟨_, _, rfl, fun j u hu => ?_⟩
  have hadd : (⟨b, off, none⟩ : Addr).add j = ⟨b, off + j, none⟩ := by unfold Addr.add; split <;> simp_all
  rw [hadd]
  have hj : j < m := by
    have := List.getElem?_eq_some_iff.1 hu
    obtain ⟨h1, _⟩ := this
    simp at h1
    omega
  rw [hc j (by omega)]
  rw [← hu]
  simp [List.getD, hj, show j < xs.length by omega]

def u8s (xs : List Int) : List Value := xs.map (Value.int .u8)
theorem u8s_length (xs : List Int) : (u8s xs).length = xs.length := by simp [u8s]
theorem u8s_one (xs : List Int) : ∀ v ∈ u8s xs, v.oneCell' = true := by
  intro v hv
  obtain ⟨x, _, rfl⟩ := List.mem_map.1 hv
  rfl
theorem splice_u8s (xs ys : List Int) (off : Nat) : splice (u8s xs) off (u8s ys) = u8s (splice xs off ys) := by
  simp [splice, u8s]

theorem wpList_copy_at {P : Program} {w : World} {ops : Array Oper} {rest : List Oper} {o : Oper} {a : Act} {Q : Exit → Act → World → Prop} (hgd : o.guard = none) (d s : Operand) (dT sT : TypeId)
    (ho : o.op = .call { callee := .builtin .copy, args := #[d, s], argTypes := #[dT, sT] }) (elem : TypeId) (hu : P.underlying dT = some (.slice elem)) (hsz : (P.info? elem).map (·.size) = some 1)
    (g off dLen dCap : Nat) (vs : Value) (hd : a.eval d = .slice (some ⟨g, off, none⟩) dLen dCap) (hs : a.eval s = vs) (xs : List Int) (hrow : Row w .u8 vs xs) (h0 : 0 < xs.length)
    (cur : List Int) (t : TypeId) (hg : w.heap[g]? = some (.cells (u8s cur).toArray t (0, 0))) (m : Nat) (hm : m = Nat.min xs.length dLen) (hfit : off + m ≤ cur.length)
    (h : ∀ w', w'.heap[g]? = some (.cells (u8s (splice cur off (xs.take m))).toArray t (0, 0)) → Only (some g) w w' → wpList P ops Q rest (a.put o.dst (goInt m)) w') :
    wpList P ops Q (o :: rest) a w := by
  have hml : m ≤ xs.length := by rw [hm]; exact Nat.min_le_left _ _
  obtain ⟨ad, cap, rfl, hsrc⟩ := row_src hrow h0 m hml
  have hl : (u8s (xs.take m)).length = m := by rw [u8s_length, List.length_take]; omega
  refine wpList_copy_own hgd d s dT sT ho elem hu hsz g off dLen dCap ad xs.length cap hd hs (u8s cur).toArray t hg (u8s (xs.take m)) (by rw [hl, hm]) hsrc (by rw [hl]; simpa [u8s_length] using hfit) (u8s_one _) ?_
  rw [hl]
  refine h _ ?_ (only_setRow _ _ _)
  rw [setRow_heap w g _ _ t _ hg, ← splice_u8s]
  simp [splice, hl]

theorem step_copy_at {P : Program} {ops : Array Oper} {o : Oper} {a : Act} {w : World} {K : Act → World → Prop} {Q : Exit → Act → World → Prop} {E : Prop} (hgd : o.guard = none) (d s : Operand) (dT sT : TypeId)
    (ho : o.op = .call { callee := .builtin .copy, args := #[d, s], argTypes := #[dT, sT] }) (elem : TypeId) (hu : P.underlying dT = some (.slice elem)) (hsz : (P.info? elem).map (·.size) = some 1)
    (g off dLen dCap : Nat) (vs : Value) (hd : a.eval d = .slice (some ⟨g, off, none⟩) dLen dCap) (hs : a.eval s = vs) (xs : List Int) (hrow : Row w .u8 vs xs) (h0 : 0 < xs.length)
    (cur : List Int) (t : TypeId) (hg : w.heap[g]? = some (.cells (u8s cur).toArray t (0, 0))) (m : Nat) (hm : m = Nat.min xs.length dLen) (hfit : off + m ≤ cur.length)
    (h : ∀ w', w'.heap[g]? = some (.cells (u8s (splice cur off (xs.take m))).toArray t (0, 0)) → Only (some g) w w' → K (a.put o.dst (goInt m)) w') :
    if Region.wanted o (yielded ops a.tmps) = true then Oper.wp P o a w K Q else E := by
  have hw : Region.wanted o (yielded ops a.tmps) = true := by simp [Region.wanted, hgd]
  rw [if_pos hw]
  have hml : m ≤ xs.length := by rw [hm]; exact Nat.min_le_left _ _
  obtain ⟨ad, cap, rfl, hsrc⟩ := row_src hrow h0 m hml
  have hl : (u8s (xs.take m)).length = m := by rw [u8s_length, List.length_take]; omega
  have hrun := run_copy_row (P := P) w dT sT o.type elem g off dLen dCap ad xs.length cap (u8s cur).toArray t (u8s (xs.take m)) hu hsz hg (by rw [hl, hm]) hsrc (by rw [hl]; simpa [u8s_length] using hfit) (u8s_one _)
  unfold Oper.wp
  simp [execOp, ho, resolve, invoke, builtin, hd, hs, hrun, Result.andThen]
  have := h _ (by rw [setRow_heap w g _ _ t _ hg]) (only_setRow w g (u8s (splice cur off (xs.take m))).toArray)
  rw [← splice_u8s] at this
  have this' : K (a.put o.dst (goInt m)) (w.setRow g (List.take off (u8s cur) ++ (u8s (List.take m xs) ++ List.drop (off + m) (u8s cur))).toArray) := by simpa [splice, hl] using this
  rw [hl]
  exact this'

/-- A whole array or struct stored into a block. -/
theorem wpList_store_at {P : Program} {ops : Array Oper} {rest : List Oper} {o : Oper} {a : Act} {w : World} {Q : Exit → Act → World → Prop} (hgd : o.guard = none) (ty : TypeId) (x y : Operand) (ho : o.op = .store ty x y)
    (g : Nat) (cells : Array Value) (hx : a.eval x = .pointer (some ⟨g, 0, none⟩)) (hy : a.eval y = .agg cells)
    (t : TypeId) (old : Array Value) (hg : w.heap[g]? = some (.cells old t (0, 0))) (hi : (P.info? ty).map (·.size) = some cells.size)
    (hold : old.size = cells.size) (h1 : cells.all (·.oneCell') = true)
    (h : ∀ w', w'.heap[g]? = some (.cells cells t (0, 0)) → Only (some g) w w' → wpList P ops Q rest (a.put o.dst undef) w') : wpList P ops Q (o :: rest) a w :=
  wpList_store_row hgd ty x y ho g cells hx hy t old hg hi hold h1 (h _ (setRow_heap w g old cells t _ hg) (only_setRow w g cells))
theorem u8s_all (xs : List Int) : (u8s xs).toArray.all (·.oneCell') = true := by
  rw [Array.all_eq_true_iff_forall_mem]
  intro v hv
  exact u8s_one xs v (by simpa using hv)
end Go.Proofs.YtbbiinbjgognjaaDoor

namespace Go.Proofs.YtbbiinbjgognjaaDoor
open Go.RowKit
set_option linter.unusedVariables false

theorem irot_7 (x : Int) (w : World) (h0 : 0 ≤ x) (h1 : x < 4294967296) : Calls Tryd.prog 82 #[.int .u32 x, .int .i64 7] w fun e w' => e = .returned (.int .u32 (rot7 x)) ∧ w' = w := by
  have e0 : bits BinOp.and IntKind.u64 7 31 = 7 := by decide
  go_enter Tryd.func82, Tryd.ntmps82
  go_wp2
  go_ret
  exact ⟨rfl, rfl⟩
theorem irot_13 (x : Int) (w : World) (h0 : 0 ≤ x) (h1 : x < 4294967296) : Calls Tryd.prog 82 #[.int .u32 x, .int .i64 13] w fun e w' => e = .returned (.int .u32 (rot13 x)) ∧ w' = w := by
  have e0 : bits BinOp.and IntKind.u64 13 31 = 13 := by decide
  go_enter Tryd.func82, Tryd.ntmps82
  go_wp2
  go_ret
  exact ⟨rfl, rfl⟩
theorem irot_17 (x : Int) (w : World) (h0 : 0 ≤ x) (h1 : x < 4294967296) : Calls Tryd.prog 82 #[.int .u32 x, .int .i64 17] w fun e w' => e = .returned (.int .u32 (rot17 x)) ∧ w' = w := by
  have e0 : bits BinOp.and IntKind.u64 17 31 = 17 := by decide
  go_enter Tryd.func82, Tryd.ntmps82
  go_wp2
  go_ret
  exact ⟨rfl, rfl⟩

theorem wrap32 (x : Int) : U32 (IntKind.u32.wrap x) := by
  rw [IntKind.wrap_u32]
  unfold U32
  omega
theorem stB_eq (s : S4) (x : Int) : rot7 (IntKind.u32.wrap (s.b + stA s x)) = stB s x := by
  unfold stB stA
  rw [IntKind.wrap_u32]
  congr 1
  omega
theorem stD_eq (s : S4) (x : Int) : rot17 (IntKind.u32.wrap (s.d + stC s x)) = stD s x := by
  unfold stD
  rw [IntKind.wrap_u32]

/-- Block g holds the state s; nothing else has turned since w. -/
structure StI (g : Nat) (w wx : World) (s : S4) : Prop where
  blk : wx.heap[g]? = some (.cells #[.int .u32 s.a, .int .u32 s.b, .int .u32 s.c, .int .u32 s.d] 112 (0, 0))
  only : Only (some g) w wx
theorem StI.drew {g : Nat} {w wx : World} {s : S4} (h : StI g w wx s) : StI g w wx.drew s := ⟨h.blk, ⟨h.only.1, h.only.2, h.only.3, h.only.4, h.only.5⟩⟩
theorem StI.set {g : Nat} {w wx : World} {s : S4} (h : StI g w wx s) (o : Nat) (u : Value) (t : S4)
    (e : (#[.int .u32 s.a, .int .u32 s.b, .int .u32 s.c, .int .u32 s.d] : Array Value).setIfInBounds o u = #[.int .u32 t.a, .int .u32 t.b, .int .u32 t.c, .int .u32 t.d]) : StI g w (wx.setCell ⟨g, o, none⟩ u) t :=
  ⟨by rw [blkS_setCell h.blk o u, e], h.only.trans (Only.setCell ⟨g, o, none⟩ u)⟩
theorem StI.cells {g : Nat} {w wx : World} {s : S4} (h : StI g w wx s) : wx.cell? ⟨g, 0, none⟩ = some (.int .u32 s.a) ∧ wx.cell? ⟨g, 1, none⟩ = some (.int .u32 s.b) ∧ wx.cell? ⟨g, 2, none⟩ = some (.int .u32 s.c) ∧ wx.cell? ⟨g, 3, none⟩ = some (.int .u32 s.d) :=
  ⟨by rw [blkS_cell h.blk]; rfl, by rw [blkS_cell h.blk]; rfl, by rw [blkS_cell h.blk]; rfl, by rw [blkS_cell h.blk]; rfl⟩

set_option maxHeartbeats 2000000 in
theorem istir (g : Nat) (s : S4) (hs : s.ok) (x : Int) (hx0 : 0 ≤ x) (hx1 : x < 256) (w : World)
    (hb : w.heap[g]? = some (.cells #[.int .u32 s.a, .int .u32 s.b, .int .u32 s.c, .int .u32 s.d] 112 (0, 0))) :
    Calls Tryd.prog 74 #[.pointer (some ⟨g, 0, none⟩), .int .u8 x] w fun e w' => (∃ v, e = .returned v) ∧ StI g w w' (stir1 s x) := by
  have H0 : Hid (StI g w w s) := ⟨hb, Only.refl _ _⟩
  obtain ⟨c0, c1, c2, c3⟩ := H0.out.cells
  have f0 := blkS_free hb 0
  have uA : U32 (stA s x) := by unfold U32 stA; omega
  have uB : U32 (stB s x) := bits32_or _ _
  have uC : U32 (stC s x) := bits32_or _ _
  have uD : U32 (stD s x) := bits32_or _ _
  obtain ⟨⟨a0, a1⟩, ⟨b0, b1⟩, ⟨g0, g1⟩, ⟨d0, d1⟩⟩ := hs
  clear hb
  go_enter Tryd.func74, Tryd.ntmps74
  go_upto_region 0 with fail
  go_cut [4] from 4 to 14 (fun _ wx => StI g w wx ⟨stA s x, s.b, s.c, s.d⟩)
  case first =>
    go_region
    go_wp2_with fail
    go_meet
    exact (H0.out.set 0 _ _ (by rfl)).drew
  case rest =>
  clear c0 c1 c2 c3 f0
  have H1 : Hid _ := hcut
  clear hcut
  obtain ⟨c0, c1, c2, c3⟩ := H1.out.cells
  have f1 := blkS_free H1.out.blk 1
  simp only at c0 c1 c2 c3
  go_upto_region 1 with fail
  go_cut [15] from 15 to 27 (fun _ wx => StI g w wx ⟨stA s x, stB s x, s.c, s.d⟩)
  case first =>
    go_region_with (go_at_call 82; refine (irot_7 _ _ (wrap32 _).1 (wrap32 _).2).mono ?_; rintro e w' ⟨rfl, hw⟩; subst w')
    all_goals (go_wp2_with fail; go_meet; exact (H1.out.set 1 _ _ (by rw [stB_eq]; rfl)).drew)
  case rest =>
  clear c0 c1 c2 c3 f1
  have H2 : Hid _ := hcut
  clear hcut
  obtain ⟨c0, c1, c2, c3⟩ := H2.out.cells
  have f2 := blkS_free H2.out.blk 2
  simp only at c0 c1 c2 c3
  go_upto_region 2 with fail
  go_cut [28] from 28 to 40 (fun _ wx => StI g w wx ⟨stA s x, stB s x, stC s x, s.d⟩)
  case first =>
    go_region_with (go_at_call 82; refine (irot_13 _ _ (bits32_xor _ _).1 (bits32_xor _ _).2).mono ?_; rintro e w' ⟨rfl, hw⟩; subst w')
    all_goals (go_wp2_with fail; go_meet; exact (H2.out.set 2 _ _ (by rfl)).drew)
  case rest =>
  clear c0 c1 c2 c3 f2
  have H3 : Hid _ := hcut
  clear hcut
  obtain ⟨c0, c1, c2, c3⟩ := H3.out.cells
  have f3 := blkS_free H3.out.blk 3
  simp only at c0 c1 c2 c3
  go_upto_region 3 with fail
  go_cut [41] from 41 to 53 (fun _ wx => StI g w wx ⟨stA s x, stB s x, stC s x, stD s x⟩)
  case first =>
    go_region_with (go_at_call 82; refine (irot_17 _ _ (wrap32 _).1 (wrap32 _).2).mono ?_; rintro e w' ⟨rfl, hw⟩; subst w')
    all_goals (go_wp2_with fail; go_meet; exact (H3.out.set 3 _ _ (by rw [stD_eq]; rfl)).drew)
  case rest =>
  clear c0 c1 c2 c3 f3
  have H4 : Hid _ := hcut
  clear hcut
  obtain ⟨c0, c1, c2, c3⟩ := H4.out.cells
  have f0 := blkS_free H4.out.blk 0
  simp only at c0 c1 c2 c3
  go_wp2
  go_region
  go_wp2
  go_end0
  exact ⟨⟨_, rfl⟩, (H4.out.set 0 _ _ (by rfl)).drew⟩
end Go.Proofs.YtbbiinbjgognjaaDoor

namespace Go.Proofs.YtbbiinbjgognjaaDoor
open Go.RowKit
set_option linter.unusedVariables false

theorem be_at (v : Int) (n i : Nat) (h : i < n) : (be v n).getD i 0 = v / 256 ^ (n - 1 - i) % 256 := by
  induction n generalizing v with
  | zero => omega
  | succ n ih =>
    unfold be
    by_cases hi : i < n
    · have e := ih (v / 256) hi
      have hl : i < (be (v / 256) n).length := by rw [be_length]; exact hi
      simp only [List.getD, List.getElem?_append_left hl] at e ⊢
      rw [e, Int.ediv_ediv_of_nonneg (by omega)]
      congr 2
      have : n + 1 - 1 - i = (n - 1 - i) + 1 := by omega
      rw [this, Int.pow_succ, Int.mul_comm]
    · obtain rfl : i = n := by omega
      simp [List.getD, be_length]

theorem pow256 (v : Int) (m : Nat) : v / 256 ^ m % 256 = v / 2 ^ (8 * m) % 256 := by
  rw [Int.pow_mul]; rfl

set_option maxHeartbeats 400000 in
theorem high (v : Int) (n : Nat) (w : World) (h0 : 0 ≤ v) (h1 : v ≤ 9223372036854775807) (hn : n ≤ 8) :
    Calls Tryd.prog 81 #[.int .u64 v, .int .i64 n] w fun e w' => ∃ r, e = .returned r ∧ w'.ownsRow w.heap.size 5 1 r n ((be v n).map (Value.int .u8)) ∧ Below w.heap.size w w' := by
  obtain ⟨i0, hi, hz0, hz1, hz2⟩ := info_parts infoU8
  go_enter Tryd.func81, Tryd.ntmps81
  go_wp2_with (at_make; refine wpList_make_full _ rfl _ _ 22 rfl w.heap.size 5 i0 (.int .u8 0) 1 Tryd.underlying22 hi hz0 hz1 .i64 .i64 (n : Int) (n : Int) n rfl rfl rfl rfl (by rw [hz2]; omega) (by unfold maxLen; omega) (Nat.le_refl _) ?_; intro w1 hown hg)
  go_loopw [10] (fun i wr => ∃ k : Nat, k ≤ n ∧ i = .int .i64 k ∧ ∃ zs : List Int, zs.length = n ∧ (∀ j, j < k → zs.getD j 0 = (be v n).getD j 0) ∧
      wr.ownsRow w.heap.size 5 1 (.slice (some ⟨w.heap.size, 0, none⟩) n n) n (zs.map (Value.int .u8)) ∧ Below w.heap.size w wr) (fun i _ => n - (intOf i).toNat)
  case atStart =>
    exact ⟨0, Nat.zero_le _, rfl, List.replicate n 0, by simp, fun j h => by omega, made_zero hown, (Below.refl _ _).grown hg (Nat.le_refl _) (by intro k hk; cases hk)⟩
  case round =>
    obtain ⟨k, hk, rfl, zs, hl, hm, hown', hb⟩ := hrel
    by_cases hlt : k < n
    · have R := fill_step (x := v / 2 ^ (8 * (n - 1 - k)) % 256) (f := fun j => (be v n).getD j 0) (by rw [be_at v n k hlt, pow256]) hl hlt hm hown' hb (Nat.le_refl _)
      have f1 := hown'.frozenAt k
      have c1 := owns_cell hown' hl hlt
      generalize zs.getD k 0 = u at c1
      clear hl hm hown' hb hown hg
      obtain ⟨ys, R⟩ := R
      have HR : Hid _ := R
      clear R
      go_wp2
      go_roundw
      case rel =>
        obtain ⟨r1, r2, r3, r4⟩ := HR.out
        exact ⟨k + 1, by omega, by go_num, ys, r1, r2, r3, r4⟩
      case measure => simp [intOf]; omega
    · have HR : Hid _ := And.intro hl (And.intro hm (And.intro hown' hb))
      clear hl hm hown' hb hown hg
      go_wp2
      go_ret
      obtain rfl : k = n := by omega
      obtain ⟨r1, r2, r3, r4⟩ := HR.out
      obtain rfl : zs = be v k := list_eq_of_getD r1 (be_length v k) r2
      exact ⟨_, rfl, r3, r4⟩
end Go.Proofs.YtbbiinbjgognjaaDoor

namespace Go.Proofs.YtbbiinbjgognjaaDoor
open Go.RowKit
set_option linter.unusedVariables false

def S4.cs (s : S4) : Array Value := #[.int .u32 s.a, .int .u32 s.b, .int .u32 s.c, .int .u32 s.d]
/-- A row of bytes does not lie in the state's block. -/
theorem not_state {w : World} {g b o : Nat} {s : S4} {x : Int} (hb : w.heap[g]? = some (.cells #[.int .u32 s.a, .int .u32 s.b, .int .u32 s.c, .int .u32 s.d] 112 (0, 0))) (hc : w.cell? ⟨b, o, none⟩ = some (.int .u8 x)) : b ≠ g := by
  rintro rfl
  rw [blkS_cell hb] at hc
  match o with
  | 0 => simp at hc
  | 1 => simp at hc
  | 2 => simp at hc
  | 3 => simp at hc
  | n + 4 => simp at hc

set_option maxHeartbeats 800000 in
theorem istirAll (g : Nat) (s : S4) (hs : s.ok) (v : Value) (xs : List Int) (w : World) (hrow : Row w .u8 v xs) (hB : Bytes xs) (hl : xs.length ≤ 4611686018427387903)
    (hb : w.heap[g]? = some (.cells #[.int .u32 s.a, .int .u32 s.b, .int .u32 s.c, .int .u32 s.d] 112 (0, 0))) :
    Calls Tryd.prog 73 #[.pointer (some ⟨g, 0, none⟩), v] w fun e w' => (∃ r, e = .returned r) ∧ StI g w w' (stirL s xs) := by
  obtain ⟨ao, cap, rfl⟩ := hrow.form
  obtain ⟨n, en⟩ : ∃ n, n = xs.length := ⟨_, rfl⟩
  have HC : Hid _ := And.intro hrow (And.intro hB (And.intro en (And.intro hs hb)))
  rw [← en] at hl ⊢
  clear hrow hB en hs hb
  go_enter Tryd.func73, Tryd.ntmps73
  go_wp2
  go_loopw [8] (fun i wr => ∃ k : Nat, k ≤ n ∧ i = .int .i64 (k : Int) ∧ StI g w wr (stirL s (xs.take k))) (fun i _ => n - (intOf i).toNat)
  case atStart => exact ⟨0, by omega, rfl, ⟨HC.out.2.2.2.2, Only.refl _ _⟩⟩
  case round =>
    obtain ⟨k, hk, rfl, st⟩ := hrel
    by_cases hlt : k < n
    · have hn := HC.out.2.2.1
      obtain ⟨b, off, cap', e1, hbl, hc⟩ := HC.out.1.at (by omega)
      simp only [Value.slice.injEq] at e1
      obtain ⟨rfl, e2, e3⟩ := e1
      have c0 := hc k (by omega)
      have hne := not_state HC.out.2.2.2.2 c0
      have cx : wr.cell? ⟨b, off + k, none⟩ = some (.int .u8 (xs.getD k 0)) := (cell_of_heap (st.only.block b (fun e => hne (by cases e; rfl))) _).trans c0
      have bx := HC.out.2.1.at k
      have H1 : Hid _ := And.intro st (And.intro (stirL_ok s (xs.take k) HC.out.2.2.2.1) (stirL_take s xs k (by omega)))
      clear st c0 hc e2 e3 hne hbl hn
      generalize xs.getD k 0 = x at cx bx H1
      go_wp2_with fail
      go_at_call 74
      refine (istir g _ H1.out.2.1 x bx.1 bx.2 wr H1.out.1.blk).mono ?_
      rintro e w1 ⟨⟨r, rfl⟩, st⟩
      have H2 : Hid _ := And.intro st True.intro
      clear st cx
      go_wp2
      go_roundw
      case rel =>
        refine ⟨k + 1, by omega, by go_num, ?_⟩
        rw [H1.out.2.2]
        exact ⟨H2.out.1.blk, H1.out.1.only.trans H2.out.1.only⟩
      case measure => simp [intOf]; omega
    · obtain rfl : k = n := by omega
      have el : xs.take k = xs := List.take_of_length_le (by have := HC.out.2.2.1; omega)
      rw [el] at st
      have H1 : Hid _ := And.intro st True.intro
      clear st
      go_wp2
      go_end0
      exact ⟨⟨_, rfl⟩, H1.out.1⟩

/-- Block g holds the state s; of the old blocks no other has turned since w. -/
structure StC (g : Nat) (w wx : World) (s : S4) : Prop where
  blk : wx.heap[g]? = some (.cells #[.int .u32 s.a, .int .u32 s.b, .int .u32 s.c, .int .u32 s.d] 112 (0, 0))
  chg : Chg (fun k => k = g) w wx
theorem StI.toC {g : Nat} {w wx : World} {s : S4} (h : StI g w wx s) : StC g w wx s := ⟨h.blk, Chg.of_only h.only (fun k e => by cases e; rfl)⟩
theorem StC.trans {g : Nat} {a b c : World} {s t : S4} (h : StC g a b s) (k : StC g b c t) : StC g a c t := ⟨k.blk, h.chg.trans k.chg⟩
theorem StC.row {g : Nat} {w wx : World} {s t : S4} {v : Value} {xs : List Int} (h : StC g w wx t) (hb : w.heap[g]? = some (.cells #[.int .u32 s.a, .int .u32 s.b, .int .u32 s.c, .int .u32 s.d] 112 (0, 0))) (hr : Row w .u8 v xs) : Row wx .u8 v xs := by
  rcases hr with hr | ⟨b, off, cap, rfl, hlt, hcap, hc⟩
  · exact Or.inl hr
  · by_cases h0 : xs.length = 0
    · obtain rfl : xs = [] := List.eq_nil_of_length_eq_zero h0
      exact Or.inl ⟨rfl, _, _, rfl⟩
    · have hne := not_state hb (hc 0 (by omega))
      exact Or.inr ⟨b, off, cap, rfl, Nat.lt_of_lt_of_le hlt h.chg.size, hcap, fun j hj => (cell_of_heap (h.chg.block b hlt hne) _).trans (hc j hj)⟩

set_option maxHeartbeats 800000 in
theorem istirCount (g : Nat) (s : S4) (hs : s.ok) (n : Nat) (hn : n ≤ 4611686018427387903) (w : World)
    (hb : w.heap[g]? = some (.cells #[.int .u32 s.a, .int .u32 s.b, .int .u32 s.c, .int .u32 s.d] 112 (0, 0))) :
    Calls Tryd.prog 72 #[.pointer (some ⟨g, 0, none⟩), .int .i64 (n : Int)] w fun e w' => (∃ r, e = .returned r) ∧ StC g w w' (stirL s (be (n : Int) 4)) := by
  have hlt : g < w.heap.size := (Array.getElem?_eq_some_iff.1 hb).1
  have HB : Hid _ := And.intro hb hs
  clear hb hs
  go_enter Tryd.func72, Tryd.ntmps72
  go_wp2_with fail
  go_at_call 81
  refine (high (n : Int) 4 w (by omega) (by omega) (by decide)).mono ?_
  rintro e w1 ⟨r, rfl, o1, b1⟩
  have H1 : Hid _ := And.intro o1 b1
  clear o1 b1
  go_wp2_with fail
  go_at_call 73
  refine (istirAll g s HB.out.2 r _ w1 (row_of_owns H1.out.1) (be_bytes _ _) (by rw [be_length]; decide) ((H1.out.2.block g hlt).trans HB.out.1)).mono ?_
  rintro e w2 ⟨⟨r2, rfl⟩, st⟩
  have H2 : Hid _ := And.intro st True.intro
  clear st
  go_wp2
  go_end0
  exact ⟨⟨_, rfl⟩, ⟨H2.out.1.blk, (Chg.of_below H1.out.2).trans H2.out.1.toC.chg⟩⟩
end Go.Proofs.YtbbiinbjgognjaaDoor

namespace Go.Proofs.YtbbiinbjgognjaaDoor
open Go.RowKit
set_option linter.unusedVariables false

def S4.byts (s : S4) : List Int := be s.a 4 ++ (be s.b 4 ++ (be s.c 4 ++ be s.d 4))
theorem byts_length (s : S4) : s.byts.length = 16 := by simp [S4.byts, be_length]
theorem byts_digV (ks ds : List Int) : (digS ks ds).byts = digV ks ds := by simp [S4.byts, digV]
def outL (s : S4) : Nat → List Int
  | 0 => List.replicate 16 0
  | 1 => be s.a 4 ++ List.replicate 12 0
  | 2 => be s.a 4 ++ (be s.b 4 ++ List.replicate 8 0)
  | 3 => be s.a 4 ++ (be s.b 4 ++ (be s.c 4 ++ List.replicate 4 0))
  | _ => s.byts
theorem outL_length (s : S4) (k : Nat) : (outL s k).length = 16 := by
  match k with
  | 0 => simp [outL]
  | 1 => simp [outL, be_length]
  | 2 => simp [outL, be_length]
  | 3 => simp [outL, be_length]
  | n + 4 => simp [outL, byts_length]
theorem outL_0 (s : S4) : splice (outL s 0) 0 ((be s.a 4).take 4) = outL s 1 := by simp [outL, splice, be]
theorem outL_1 (s : S4) : splice (outL s 1) 4 ((be s.b 4).take 4) = outL s 2 := by simp [outL, splice, be]
theorem outL_2 (s : S4) : splice (outL s 2) 8 ((be s.c 4).take 4) = outL s 3 := by simp [outL, splice, be]
theorem outL_3 (s : S4) : splice (outL s 3) 12 ((be s.d 4).take 4) = outL s 4 := by simp [outL, splice, be, S4.byts]
theorem infoU8s : (Tryd.prog.info? 5).map (·.size) = some 1 := by kernel_rfl
theorem infoB16 : (Tryd.prog.info? 79).map (·.size) = some 16 := by kernel_rfl
theorem infoBs (xs : List Int) (h : xs.length = 16) : (Tryd.prog.info? 79).map (·.size) = some (u8s xs).toArray.size := by rw [infoB16]; simp [u8s_length, h]
theorem zeros16 : (#[.int .u8 0, .int .u8 0, .int .u8 0, .int .u8 0, .int .u8 0, .int .u8 0, .int .u8 0, .int .u8 0, .int .u8 0, .int .u8 0, .int .u8 0, .int .u8 0, .int .u8 0, .int .u8 0, .int .u8 0, .int .u8 0] : Array Value) = (u8s (List.replicate 16 0)).toArray := rfl

theorem book_new2 (w : World) (o1 o2 : Obj) : Book ((w.alloc o1).alloc o2) [(w.heap.size + 1, o2), (w.heap.size, o1)] := by
  refine ⟨fun b o hm => ?_⟩
  rcases List.mem_cons.1 hm with e | hm
  · cases e
    exact (bk_new2 w o1 o2).2
  · simp only [List.mem_singleton, Prod.mk.injEq] at hm
    obtain ⟨rfl, rfl⟩ := hm
    exact (bk_new2 w o o2).1
/-- A book of which one block has turned. -/
theorem Book.turn {wx w' : World} {g : Nat} {o o' : Obj} {L : List (Nat × Obj)} (h : Book wx ((g, o) :: L)) (hc : Only (some g) wx w') (hn : w'.heap[g]? = some o') (hs : ∀ b o, (b, o) ∈ L → b ≠ g) : Book w' ((g, o') :: L) := by
  refine ⟨fun b u hm => ?_⟩
  rcases List.mem_cons.1 hm with e | hm
  · cases e
    exact hn
  · exact (hc.block b (fun e => hs b u hm (by cases e; rfl))).trans (h.blk b u (List.mem_cons_of_mem _ hm))

/-- The two blocks of block(): the answer's room and the variable. -/
abbrev BkB (h : Nat) (s : S4) (k : Nat) : List (Nat × Obj) := [(h + 1, .cells (u8s (outL s k)).toArray 79 (0, 0)), (h, .cells (u8s (List.replicate 16 0)).toArray 79 (0, 0))]

set_option maxRecDepth 20000 in
set_option maxHeartbeats 4000000 in
theorem iblock (g : Nat) (s : S4) (hs : s.ok) (w : World)
    (hb : w.heap[g]? = some (.cells #[.int .u32 s.a, .int .u32 s.b, .int .u32 s.c, .int .u32 s.d] 112 (0, 0))) :
    Calls Tryd.prog 75 #[.pointer (some ⟨g, 0, none⟩)] w fun e w' => e = .returned (.agg (u8s s.byts).toArray) ∧ Below w.heap.size w w' := by
  have hlt : g < w.heap.size := (Array.getElem?_eq_some_iff.1 hb).1
  have HB : Hid _ := And.intro hb hs
  clear hb hs
  go_enter Tryd.func75, Tryd.ntmps75
  go_wp2
  go_loopw [7] (fun i wr => ∃ k : Nat, k ≤ 4 ∧ i = .int .i64 (k : Int) ∧ Book wr (BkB w.heap.size s k) ∧ Below w.heap.size w wr) (fun i _ => 4 - (intOf i).toNat)
  case atStart =>
    refine ⟨0, by omega, rfl, ?_, ((Below.refl _ _).alloc (Nat.le_refl _) _).alloc (by simp) _⟩
    rw [zeros16]
    exact book_new2 w _ _
  case round =>
    obtain ⟨k, hk, rfl, bk, bl⟩ := hrel
    have st : StI g w w s := ⟨HB.out.1, Only.refl _ _⟩
    obtain ⟨c0, c1, c2, c3⟩ := st.cells
    clear st
    by_cases hlt4 : k < 4
    · rcases (show k = 0 ∨ k = 1 ∨ k = 2 ∨ k = 3 by omega) with rfl | rfl | rfl | rfl
      · have cx := (bl.cell (p := ⟨g, 0, none⟩) hlt).trans c0
        have H1 : Hid _ := And.intro bk bl
        have hx := HB.out.2.1
        obtain ⟨hx0, hx1⟩ := hx
        clear bk bl c0 c1 c2 c3
        have es := outL_0 s
        have HE : Hid _ := es
        clear es
        generalize s.a = x at cx hx0 hx1 HE
        go_upto_region 5 with (go_quiet (fail))
        have ew : IntKind.i64.wrap 0 = 0 := by decide
        have ex : IntKind.u64.wrap x = x := by rw [IntKind.wrap_u64]; omega
        go_region_law (first
          | (go_simp; go_at_call 81; refine (high x 4 _ (by omega) (by omega) (by decide)).mono ?_; rintro e w1 ⟨r, rfl, o1, b1⟩)
          | (refine step_copy_at rfl (.tmp 15) (.tmp 18) 22 22 rfl 5 Tryd.underlying22 infoU8s (w.heap.size + 1) (0) (16 - 0) (16 - 0) _ rfl rfl _ (row_of_owns o1) (by rw [be_length]; decide) (outL s 0) 79 (((H1.out.1.drewN _).below b1).blk _ _ (by simp)) 4 (by rw [be_length]; rfl) (by rw [outL_length]; decide) ?_; intro w2 h2 n2))
        all_goals
          rw [HE.out] at h2
          have H2 : Hid _ := And.intro (((H1.out.1.drewN _).below b1).turn n2 h2 (by intro b o hm; simp at hm; omega)) (((below_drewN H1.out.2 _).trans (b1.mono H1.out.2.size)).trans (n2.below (by omega)))
          clear h2 n2 o1 b1 cx
          go_wp2
          go_roundw
          case rel => exact ⟨0 + 1, by decide, rfl, H2.out.1, H2.out.2⟩
          case measure => simp [intOf]
      · have cx := (bl.cell (p := ⟨g, 1, none⟩) hlt).trans c1
        have H1 : Hid _ := And.intro bk bl
        have hx := HB.out.2.2.1
        obtain ⟨hx0, hx1⟩ := hx
        clear bk bl c0 c1 c2 c3
        have es := outL_1 s
        have HE : Hid _ := es
        clear es
        generalize s.b = x at cx hx0 hx1 HE
        go_upto_region 5 with (go_quiet (fail))
        have ew : IntKind.i64.wrap 4 = 4 := by decide
        have ex : IntKind.u64.wrap x = x := by rw [IntKind.wrap_u64]; omega
        go_region_law (first
          | (go_simp; go_at_call 81; refine (high x 4 _ (by omega) (by omega) (by decide)).mono ?_; rintro e w1 ⟨r, rfl, o1, b1⟩)
          | (refine step_copy_at rfl (.tmp 15) (.tmp 18) 22 22 rfl 5 Tryd.underlying22 infoU8s (w.heap.size + 1) (4) (16 - 4) (16 - 4) _ rfl rfl _ (row_of_owns o1) (by rw [be_length]; decide) (outL s 1) 79 (((H1.out.1.drewN _).below b1).blk _ _ (by simp)) 4 (by rw [be_length]; rfl) (by rw [outL_length]; decide) ?_; intro w2 h2 n2))
        all_goals
          rw [HE.out] at h2
          have H2 : Hid _ := And.intro (((H1.out.1.drewN _).below b1).turn n2 h2 (by intro b o hm; simp at hm; omega)) (((below_drewN H1.out.2 _).trans (b1.mono H1.out.2.size)).trans (n2.below (by omega)))
          clear h2 n2 o1 b1 cx
          go_wp2
          go_roundw
          case rel => exact ⟨1 + 1, by decide, rfl, H2.out.1, H2.out.2⟩
          case measure => simp [intOf]
      · have cx := (bl.cell (p := ⟨g, 2, none⟩) hlt).trans c2
        have H1 : Hid _ := And.intro bk bl
        have hx := HB.out.2.2.2.1
        obtain ⟨hx0, hx1⟩ := hx
        clear bk bl c0 c1 c2 c3
        have es := outL_2 s
        have HE : Hid _ := es
        clear es
        generalize s.c = x at cx hx0 hx1 HE
        go_upto_region 5 with (go_quiet (fail))
        have ew : IntKind.i64.wrap 8 = 8 := by decide
        have ex : IntKind.u64.wrap x = x := by rw [IntKind.wrap_u64]; omega
        go_region_law (first
          | (go_simp; go_at_call 81; refine (high x 4 _ (by omega) (by omega) (by decide)).mono ?_; rintro e w1 ⟨r, rfl, o1, b1⟩)
          | (refine step_copy_at rfl (.tmp 15) (.tmp 18) 22 22 rfl 5 Tryd.underlying22 infoU8s (w.heap.size + 1) (8) (16 - 8) (16 - 8) _ rfl rfl _ (row_of_owns o1) (by rw [be_length]; decide) (outL s 2) 79 (((H1.out.1.drewN _).below b1).blk _ _ (by simp)) 4 (by rw [be_length]; rfl) (by rw [outL_length]; decide) ?_; intro w2 h2 n2))
        all_goals
          rw [HE.out] at h2
          have H2 : Hid _ := And.intro (((H1.out.1.drewN _).below b1).turn n2 h2 (by intro b o hm; simp at hm; omega)) (((below_drewN H1.out.2 _).trans (b1.mono H1.out.2.size)).trans (n2.below (by omega)))
          clear h2 n2 o1 b1 cx
          go_wp2
          go_roundw
          case rel => exact ⟨2 + 1, by decide, rfl, H2.out.1, H2.out.2⟩
          case measure => simp [intOf]
      · have cx := (bl.cell (p := ⟨g, 3, none⟩) hlt).trans c3
        have H1 : Hid _ := And.intro bk bl
        have hx := HB.out.2.2.2.2
        obtain ⟨hx0, hx1⟩ := hx
        clear bk bl c0 c1 c2 c3
        have es := outL_3 s
        have HE : Hid _ := es
        clear es
        generalize s.d = x at cx hx0 hx1 HE
        go_upto_region 5 with (go_quiet (fail))
        have ew : IntKind.i64.wrap 12 = 12 := by decide
        have ex : IntKind.u64.wrap x = x := by rw [IntKind.wrap_u64]; omega
        go_region_law (first
          | (go_simp; go_at_call 81; refine (high x 4 _ (by omega) (by omega) (by decide)).mono ?_; rintro e w1 ⟨r, rfl, o1, b1⟩)
          | (refine step_copy_at rfl (.tmp 15) (.tmp 18) 22 22 rfl 5 Tryd.underlying22 infoU8s (w.heap.size + 1) (12) (16 - 12) (16 - 12) _ rfl rfl _ (row_of_owns o1) (by rw [be_length]; decide) (outL s 3) 79 (((H1.out.1.drewN _).below b1).blk _ _ (by simp)) 4 (by rw [be_length]; rfl) (by rw [outL_length]; decide) ?_; intro w2 h2 n2))
        all_goals
          rw [HE.out] at h2
          have H2 : Hid _ := And.intro (((H1.out.1.drewN _).below b1).turn n2 h2 (by intro b o hm; simp at hm; omega)) (((below_drewN H1.out.2 _).trans (b1.mono H1.out.2.size)).trans (n2.below (by omega)))
          clear h2 n2 o1 b1 cx
          go_wp2
          go_roundw
          case rel => exact ⟨3 + 1, by decide, rfl, H2.out.1, H2.out.2⟩
          case measure => simp [intOf]
    · obtain rfl : k = 4 := by omega
      have H1 : Hid _ := And.intro bk bl
      clear bk bl c0 c1 c2 c3
      go_wp2_with (first
        | (refine wpList_load_row rfl 79 (.tmp 3) rfl (w.heap.size + 1) rfl 79 _ (0, 0) _ (H1.out.1.blk _ _ (by simp)) Tryd.underlying79 rfl (infoBs _ (outL_length s 4)) ?_)
        | (refine wpList_store_at rfl 79 (.tmp 2) (.tmp 21) rfl w.heap.size _ rfl rfl 79 (u8s (List.replicate 16 0)).toArray (H1.out.1.blk _ _ (by simp)) (infoBs _ (outL_length s 4)) (by simp [u8s_length, outL_length]) (u8s_all _) ?_; intro w2 h2 n2))
      try simp only [Exit.inBlock, Exit.then]
      refine bodyPost_ret (v := .agg (u8s s.byts).toArray) ?_ rfl ?_
      · exact results_cell_row (t := 79) rfl _ _ w.heap.size _ (fr := (0, 0)) _ rfl h2 Tryd.underlying79 rfl (infoBs _ (outL_length s 4))
      · exact ⟨rfl, H1.out.2.trans (n2.below (Nat.le_refl _))⟩
end Go.Proofs.YtbbiinbjgognjaaDoor

namespace Go.Proofs.YtbbiinbjgognjaaDoor
open Go.RowKit
set_option linter.unusedVariables false

theorem infoS80 : (Tryd.prog.info? 112).map (·.size) = some 4 := by kernel_rfl
set_option maxHeartbeats 800000 in
theorem inew (w : World) : Calls Tryd.prog 71 #[] w fun e w' => e = .returned (.agg #[.int .u32 1779033703, .int .u32 3144134277, .int .u32 1013904242, .int .u32 2773480762]) ∧ Below w.heap.size w w' := by
  go_enter Tryd.func71, Tryd.ntmps71
  go_wp2
  refine bodyPost_ret (v := .agg #[.int .u32 1779033703, .int .u32 3144134277, .int .u32 1013904242, .int .u32 2773480762]) (by simp [results, Tryd.results71, go_sem]) rfl ⟨rfl, ?_⟩
  exact (Below.refl _ _).alloc (Nat.le_refl _) _

/-- digestParts' own blocks: the answer's room, the state. -/
structure DP (w wx : World) (g : Nat) (s : S4) : Prop where
  blk : wx.heap[g]? = some (.cells #[.int .u32 s.a, .int .u32 s.b, .int .u32 s.c, .int .u32 s.d] 112 (0, 0))
  res : wx.heap[w.heap.size]? = some (.cells (u8s (List.replicate 16 0)).toArray 79 (0, 0))
  bel : Below w.heap.size w wx
  lt : w.heap.size < g
theorem DP.step {w wx wy : World} {g : Nat} {s t : S4} (h : DP w wx g s) (k : StC g wx wy t) : DP w wy g t := by
  have hg : g < wx.heap.size := (Array.getElem?_eq_some_iff.1 h.blk).1
  have hr : w.heap.size < wx.heap.size := (Array.getElem?_eq_some_iff.1 h.res).1
  exact ⟨k.blk, (k.chg.block _ hr (by have := h.lt; omega)).trans h.res, h.bel.trans (k.chg.below h.bel.size (fun i e => by have := h.lt; omega)), h.lt⟩
set_option maxRecDepth 20000 in
set_option maxHeartbeats 4000000 in
theorem iparts (vk vp : Value) (ks : List Int) (L : List (List Int)) (w : World) (rk : Row w .u8 vk ks) (bk : Bytes ks) (lk : ks.length ≤ 4611686018427387903) (hp : Parts w vp L) (bp : ∀ j, Bytes (L.getD j [])) (lp : L.flatten.length ≤ 4611686018427387903) (lL : L.length ≤ 1000) :
    Calls Tryd.prog 51 #[vk, vp] w fun e w' => e = .returned (.agg (u8s (digV ks L.flatten)).toArray) ∧ Below w.heap.size w w' := by
  obtain ⟨p, capp, rfl, hpl, hpc⟩ := hp.at'
  obtain ⟨aok, capk, rfl⟩ := rk.form
  obtain ⟨n, en⟩ : ∃ n, n = ks.length := ⟨_, rfl⟩
  obtain ⟨m, em⟩ : ∃ m, m = L.length := ⟨_, rfl⟩
  have HH : Hid _ := And.intro rk (And.intro bk (And.intro en (And.intro em (And.intro bp (And.intro lp (And.intro hpc hpl))))))
  rw [← en] at lk ⊢
  rw [← em] at lL ⊢
  clear rk bk en em hp bp lp hpc
  go_enter Tryd.func51, Tryd.ntmps51
  go_wp2_with fail
  go_at_call 71
  refine (inew _).mono ?_
  rintro e w1 ⟨rfl, b1⟩
  obtain ⟨g, eg⟩ : ∃ g, g = w1.heap.size := ⟨_, rfl⟩
  have hgl : w.heap.size < g := by have := b1.size; simp at this; omega
  have D0 : Hid (DP w (w1.alloc (.cells #[.int .u32 1779033703, .int .u32 3144134277, .int .u32 1013904242, .int .u32 2773480762] 112 (0, 0))) g dig0) := by
    have hb : Below (w.alloc (.cells (u8s (List.replicate 16 0)).toArray 79 (0, 0))).heap.size (w.alloc (.cells (u8s (List.replicate 16 0)).toArray 79 (0, 0))) w1 := b1
    refine ⟨by rw [eg]; exact (MapKept.heap_alloc w1 _).1, ?_, ?_, hgl⟩
    · rw [Below.heap_alloc w1 _ _ (by omega), hb.block _ (by simp)]
      exact (MapKept.heap_alloc w _).1
    · exact ((((Below.refl _ _).alloc (Nat.le_refl _) _).trans (hb.mono (by simp))).alloc (by omega) _)
  have EG : Hid _ := And.intro eg b1
  clear b1
  go_wp2_with fail
  go_at_call 72
  rw [← eg]
  refine (istirCount g dig0 dig0_ok n (by omega) _ D0.out.blk).mono ?_
  rintro e w2 ⟨⟨r2, rfl⟩, st⟩
  have k2 := stirL_ok dig0 (be (n : Int) 4) dig0_ok
  have H2 : Hid _ := And.intro (D0.out.step st) (And.intro k2 (show stirL dig0 (be (n : Int) 4) = stirL dig0 (be (ks.length : Int) 4) by rw [HH.out.2.2.1]))
  generalize stirL dig0 (be (n : Int) 4) = s2 at H2
  clear st k2 D0 EG eg
  go_wp2_with fail
  go_at_call 73
  refine (istirAll g s2 H2.out.2.1 _ ks w2 (by rw [HH.out.2.2.1]; exact HH.out.1.below H2.out.1.bel) HH.out.2.1 (by have := HH.out.2.2.1; omega) H2.out.1.blk).mono ?_
  rintro e w3 ⟨⟨r3, rfl⟩, st⟩
  have k3 := stirL_ok s2 ks H2.out.2.1
  have H3 : Hid _ := And.intro (H2.out.1.step st.toC) (And.intro k3 (show stirL s2 ks = stirL (stirL dig0 (be (ks.length : Int) 4)) ks by rw [H2.out.2.2]))
  generalize stirL s2 ks = s3 at H3
  clear st k3 H2
  go_wp2_with fail
  go_loopw [17, 6] (fun i c wr => ∃ k : Nat, k ≤ m ∧ i = .int .i64 (k : Int) ∧ c = .int .i64 (((L.take k).flatten.length : Nat) : Int) ∧ DP w wr g (stirL s3 (L.take k).flatten)) (fun i _ _ => m - (intOf i).toNat)
  case atStart => exact ⟨0, by omega, rfl, by simp, by simpa [stirL] using H3.out.1⟩
  case round =>
    obtain ⟨k, hk, rfl, rfl, st⟩ := hrel
    by_cases hlt : k < m
    · obtain ⟨v, hv, hr⟩ := HH.out.2.2.2.2.2.2.1 k (by have := HH.out.2.2.2.1; omega)
      have cv := (st.bel.cell (p := ⟨p, k, none⟩) hpl).trans hv
      have ft := flat_take L k (by have := HH.out.2.2.2.1; omega)
      have fl : (L.take (k + 1)).flatten.length = (L.take k).flatten.length + (L.getD k []).length := by rw [ft, List.length_append]
      have fb : (L.take (k + 1)).flatten.length ≤ L.flatten.length := by
        conv => rhs; rw [← List.take_append_drop (k + 1) L]
        rw [List.flatten_append, List.length_append]
        omega
      have lp := HH.out.2.2.2.2.2.1
      obtain ⟨av, cpv, rfl⟩ := hr.form
      have hlx : (L.getD k []).length ≤ 4611686018427387903 := by omega
      have es : stirL s3 (L.take (k + 1)).flatten = stirL (stirL s3 (L.take k).flatten) (L.getD k []) := by rw [ft, stirL_append]
      have H4 : Hid _ := And.intro (hr.below st.bel) (And.intro (HH.out.2.2.2.2.1 k) (And.intro st (And.intro (stirL_ok s3 (L.take k).flatten H3.out.2.1) (And.intro es fl))))
      have hsum : (L.take k).flatten.length + (L.getD k []).length ≤ 4611686018427387903 := by omega
      clear hv hr ft fl fb lp st es
      generalize L.getD k [] = xs at cv H4 hlx hsum
      obtain ⟨nx, enx⟩ : ∃ q, q = xs.length := ⟨_, rfl⟩
      obtain ⟨nt, ent⟩ : ∃ q, q = (L.take k).flatten.length := ⟨_, rfl⟩
      rw [← enx] at cv hlx hsum
      rw [← ent] at hsum ⊢
      have EN : Hid _ := And.intro enx ent
      clear enx ent
      go_wp2_with fail
      go_at_call 73
      refine (istirAll g _ H4.out.2.2.2.1 _ xs wr (by rw [EN.out.1]; exact H4.out.1) H4.out.2.1 (by rw [← EN.out.1]; exact hlx) H4.out.2.2.1.blk).mono ?_
      rintro e w4 ⟨⟨r4, rfl⟩, st4⟩
      have H5 : Hid _ := And.intro (H4.out.2.2.1.step st4.toC) True.intro
      clear st4 cv
      go_wp2
      go_roundw
      case rel =>
        refine ⟨k + 1, by omega, by go_num, ?_, ?_⟩
        · rw [H4.out.2.2.2.2.2, ← EN.out.1, ← EN.out.2]; simp
        · rw [H4.out.2.2.2.2.1]; exact H5.out.1
      case measure => simp [intOf]; omega
    · obtain rfl : k = m := by omega
      have el : L.take k = L := List.take_of_length_le (by have := HH.out.2.2.2.1; omega)
      rw [el] at st
      rw [el]
      have k4 := stirL_ok s3 L.flatten H3.out.2.1
      have H4 : Hid _ := And.intro st (And.intro k4 (show stirL s3 L.flatten = stirL (stirL (stirL dig0 (be (ks.length : Int) 4)) ks) L.flatten by rw [H3.out.2.2]))
      generalize stirL s3 L.flatten = s4 at H4
      clear st k4
      have lp := HH.out.2.2.2.2.2.1
      obtain ⟨nt, ent⟩ : ∃ q, q = L.flatten.length := ⟨_, rfl⟩
      rw [← ent] at lp ⊢
      have EN : Hid _ := And.intro ent True.intro
      clear ent
      go_wp2_with fail
      go_at_call 72
      refine (istirCount g s4 H4.out.2.1 nt lp _ H4.out.1.blk).mono ?_
      rintro e w5 ⟨⟨r5, rfl⟩, st5⟩
      have k5 := stirL_ok s4 (be (nt : Int) 4) H4.out.2.1
      have H5 : Hid _ := And.intro (H4.out.1.step st5) (And.intro k5 (show stirL s4 (be (nt : Int) 4) = stirL (stirL (stirL (stirL dig0 (be (ks.length : Int) 4)) ks) L.flatten) (be (L.flatten.length : Int) 4) by rw [H4.out.2.2, EN.out.1]))
      generalize stirL s4 (be (nt : Int) 4) = s5 at H5
      clear st5 k5 H4
      go_wp2_with fail
      go_loopw [30] (fun i wr => ∃ k : Nat, k ≤ 16 ∧ i = .int .i64 (k : Int) ∧ DP w wr g (stirL s5 (List.replicate k 165))) (fun i _ => 16 - (intOf i).toNat)
      case atStart => exact ⟨0, by omega, rfl, H5.out.1⟩
      case round =>
        obtain ⟨j, hj, rfl, st⟩ := hrel
        by_cases hlt2 : j < 16
        · have es : stirL s5 (List.replicate (j + 1) 165) = stir1 (stirL s5 (List.replicate j 165)) 165 := by rw [List.replicate_succ', stirL_append]; rfl
          have H6 : Hid _ := And.intro st (And.intro (stirL_ok s5 (List.replicate j 165) H5.out.2.1) es)
          clear st es
          go_wp2_with fail
          go_at_call 74
          refine (istir g _ H6.out.2.1 165 (by decide) (by decide) wr H6.out.1.blk).mono ?_
          rintro e w6 ⟨⟨r6, rfl⟩, st6⟩
          have H7 : Hid _ := And.intro (H6.out.1.step st6.toC) True.intro
          clear st6
          go_wp2
          go_roundw
          case rel => exact ⟨j + 1, by omega, by go_num, by rw [H6.out.2.2]; exact H7.out.1⟩
          case measure => simp [intOf]; omega
        · obtain rfl : j = 16 := by omega
          have k6 := stirL_ok s5 (List.replicate 16 165) H5.out.2.1
          have H6 : Hid _ := And.intro st (And.intro k6 (show stirL s5 (List.replicate 16 165) = digS ks L.flatten by rw [H5.out.2.2]; rfl))
          generalize stirL s5 (List.replicate 16 165) = s6 at H6
          clear st k6
          go_wp2_with fail
          go_at_call 75
          refine (iblock g s6 H6.out.2.1 wr H6.out.1.blk).mono ?_
          rintro e w7 ⟨rfl, b7⟩
          have hrz : w.heap.size < wr.heap.size := (Array.getElem?_eq_some_iff.1 H6.out.1.res).1
          have H7 : Hid _ := And.intro ((b7.block _ hrz).trans H6.out.1.res) (H6.out.1.bel.trans (b7.mono H6.out.1.bel.size))
          clear b7 hrz
          go_wp2_with (refine wpList_store_at rfl 79 (.tmp 4) (.tmp 34) rfl w.heap.size _ rfl rfl 79 (u8s (List.replicate 16 0)).toArray H7.out.1 (infoBs _ (byts_length s6)) (by simp [u8s_length, byts_length]) (u8s_all _) ?_; intro w8 h8 n8)
          try simp only [Exit.inBlock, Exit.then]
          refine bodyPost_ret (v := .agg (u8s s6.byts).toArray) ?_ rfl ?_
          · exact results_cell_row (t := 79) rfl _ _ w.heap.size _ (fr := (0, 0)) _ rfl h8 Tryd.underlying79 rfl (infoBs _ (byts_length s6))
          · exact ⟨by rw [H6.out.2.2, byts_digV], H7.out.2.trans (n8.below (Nat.le_refl _))⟩
end Go.Proofs.YtbbiinbjgognjaaDoor

namespace Go.Proofs.YtbbiinbjgognjaaDoor
open Go.RowKit
set_option linter.unusedVariables false

def digestV (ks ds : List Int) : List Int := if ks.length ≤ 65536 ∧ ds.length ≤ 65536 then digV ks ds else []
theorem digestV_length (ks ds : List Int) : (digestV ks ds).length ≤ 16 := by
  unfold digestV
  split
  · rw [digV_length]; decide
  · decide

theorem owns_empty (w : World) (e : TypeId) : (w.alloc (.cells #[] e)).ownsRow w.heap.size e 1 (.slice (some ⟨w.heap.size, 0, none⟩) 0 0) 0 [] :=
  ⟨rfl, Or.inr ⟨w.heap.size, 0, #[], rfl, Nat.le_refl _, (MapKept.heap_alloc w _).1, Nat.le_refl _, Nat.zero_le _, rfl, rfl⟩⟩
end Go.Proofs.YtbbiinbjgognjaaDoor

namespace Go.Proofs.YtbbiinbjgognjaaDoor
open Go.RowKit
set_option linter.unusedVariables false

theorem parts_at {w : World} {p n cap : Nat} {vs : List Value} {L : List (List Int)} {t : TypeId} (hp : w.heap[p]? = some (.cells vs.toArray t (0, 0))) (hn : n = L.length) (hr : ∀ j, j < L.length → ∃ v, vs[j]? = some v ∧ Row w .u8 v (L.getD j [])) :
    Parts w (.slice (some ⟨p, 0, none⟩) n cap) L := by
  subst hn
  refine ⟨p, cap, rfl, (Array.getElem?_eq_some_iff.1 hp).1, fun j hj => ?_⟩
  obtain ⟨v, h1, h2⟩ := hr j hj
  exact ⟨v, by rw [blkS_cell hp]; simpa using h1, h2⟩
theorem parts6 {w : World} {v1 v2 v3 v4 v5 v6 : Value} {x1 x2 x3 x4 x5 x6 : List Int} (t : TypeId) (h1 : Row w .u8 v1 x1) (h2 : Row w .u8 v2 x2) (h3 : Row w .u8 v3 x3) (h4 : Row w .u8 v4 x4) (h5 : Row w .u8 v5 x5) (h6 : Row w .u8 v6 x6) :
    Parts (w.alloc (.cells #[v1, v2, v3, v4, v5, v6] t)) (.slice (some ⟨w.heap.size, 0, none⟩) 6 6) [x1, x2, x3, x4, x5, x6] := by
  have hb := (Below.refl w.heap.size w).alloc (Nat.le_refl _) (.cells #[v1, v2, v3, v4, v5, v6] t)
  refine parts_at (vs := [v1, v2, v3, v4, v5, v6]) (MapKept.heap_alloc w _).1 rfl (fun j hj => ?_)
  rcases (show j = 0 ∨ j = 1 ∨ j = 2 ∨ j = 3 ∨ j = 4 ∨ j = 5 by simp at hj; omega) with rfl | rfl | rfl | rfl | rfl | rfl
  · exact ⟨v1, rfl, h1.below hb⟩
  · exact ⟨v2, rfl, h2.below hb⟩
  · exact ⟨v3, rfl, h3.below hb⟩
  · exact ⟨v4, rfl, h4.below hb⟩
  · exact ⟨v5, rfl, h5.below hb⟩
  · exact ⟨v6, rfl, h6.below hb⟩
theorem below_new (w : World) (o : Obj) : Below w.heap.size w (w.alloc o) := (Below.refl _ _).alloc (Nat.le_refl _) _
end Go.Proofs.YtbbiinbjgognjaaDoor

namespace Go.Proofs.YtbbiinbjgognjaaDoor
open Go.RowKit
set_option linter.unusedVariables false

theorem infoR8 : (Tryd.prog.info? 54).map (·.size) = some 8 := by kernel_rfl
theorem infoR8s (xs : List Int) (h : xs.length = 8) : (Tryd.prog.info? 54).map (·.size) = some (u8s xs).toArray.size := by rw [infoR8]; simp [u8s_length, h]
abbrev Z8r : Obj := .cells #[.int .u8 0, .int .u8 0, .int .u8 0, .int .u8 0, .int .u8 0, .int .u8 0, .int .u8 0, .int .u8 0] 54 (0, 0)
abbrev KeyF : Obj := .cells #[.int .u8 114, .int .u8 101, .int .u8 116, .int .u8 114, .int .u8 121] 5 (5, 6)
theorem parts3 {w : World} {v1 v2 v3 : Value} {x1 x2 x3 : List Int} (t : TypeId) (h1 : Row w .u8 v1 x1) (h2 : Row w .u8 v2 x2) (h3 : Row w .u8 v3 x3) :
    Parts (w.alloc (.cells #[v1, v2, v3] t)) (.slice (some ⟨w.heap.size, 0, none⟩) 3 3) [x1, x2, x3] := by
  have hb := (Below.refl w.heap.size w).alloc (Nat.le_refl _) (.cells #[v1, v2, v3] t)
  refine parts_at (vs := [v1, v2, v3]) (MapKept.heap_alloc w _).1 rfl (fun j hj => ?_)
  rcases (show j = 0 ∨ j = 1 ∨ j = 2 by simp at hj; omega) with rfl | rfl | rfl
  · exact ⟨v1, rfl, h1.below hb⟩
  · exact ⟨v2, rfl, h2.below hb⟩
  · exact ⟨v3, rfl, h3.below hb⟩
theorem bytes_getD3 {x1 x2 x3 : List Int} (h1 : Bytes x1) (h2 : Bytes x2) (h3 : Bytes x3) (j : Nat) : Bytes ([x1, x2, x3].getD j []) := by
  match j with
  | 0 => exact h1
  | 1 => exact h2
  | 2 => exact h3
  | n + 3 => intro x h; simp [List.getD] at h
theorem row_partr {w : World} {g t off n c : Nat} {fr : Nat × Nat} {xs : List Int} (h : w.heap[g]? = some (.cells (u8s xs).toArray t fr)) (hn : off + n ≤ xs.length) (hc : n ≤ c) (hm : c ≤ maxLen) : Row w .u8 (.slice (some ⟨g, off, none⟩) n c) ((xs.drop off).take n) := by
  have := row_cut (w := w) (k := .u8) (xs := xs) (b := g) (off := 0) (cap := 0) (at' := off) (n := n) (cap' := c) (Array.getElem?_eq_some_iff.1 h).1 (fun j hj => ?_) hn ⟨hc, hm⟩
  · rwa [Nat.zero_add] at this
  · rw [Nat.zero_add, blkS_cell h]
    simp [u8s, List.getD, hj]
set_option maxRecDepth 20000 in
set_option maxHeartbeats 4000000 in
theorem iretTag (ao ap : Option Addr) (n m po pp : Nat) (o p : List Int) (w : World) (ro : Row w .u8 (.slice ao n po) o) (rp : Row w .u8 (.slice ap m pp) p) (eo : o.length = n) (ep : p.length = m) (hn : n ≤ 8) (hm : m ≤ 4096) (bo : Bytes o) (bp : Bytes p) :
    Calls Tryd.prog 34 #[.slice ao n po, .slice ap m pp] w fun e w' => e = .returned (.agg (u8s (retV o p)).toArray) ∧ Below w.heap.size w w' := by
  have e1 := wrap8 n hn
  have B0 := (Below.refl w.heap.size w).alloc (Nat.le_refl _) Z8r
  have B1 := B0.alloc B0.size KeyF
  have B2 := B1.alloc B1.size (.cells #[.int .u8 (n : Int)] 5)
  have s0 : (w.alloc Z8r).heap.size = w.heap.size + 1 := by simp
  have s1 : ((w.alloc Z8r).alloc KeyF).heap.size = w.heap.size + 1 + 1 := by simp
  have s2 : (((w.alloc Z8r).alloc KeyF).alloc (.cells #[.int .u8 (n : Int)] 5)).heap.size = w.heap.size + 1 + 1 + 1 := by simp
  have kc : (convert 22 22 (.slice (some ⟨w.heap.size + 1, 0, none⟩) 5 5)).run Tryd.prog ((w.alloc Z8r).alloc (.cells #[.int .u8 114, .int .u8 101, .int .u8 116, .int .u8 114, .int .u8 121] 5)) = .ok (.slice (some ⟨w.heap.size + 1, 0, none⟩) 5 5) ((w.alloc Z8r).alloc KeyF) := by
    have h := kconst (w.alloc Z8r) #[.int .u8 114, .int .u8 101, .int .u8 116, .int .u8 114, .int .u8 121] 5 5
    rw [s0] at h
    exact h
  have r1 := one_row ((w.alloc Z8r).alloc KeyF) (n : Int)
  rw [s1] at r1
  have HP := parts3 22 r1 (ro.below B2) (rp.below B2)
  rw [s2] at HP
  have B3 := B2.alloc B2.size (.cells #[.slice (some ⟨w.heap.size + 1 + 1, 0, none⟩) 1 1, .slice ao n po, .slice ap m pp] 22)
  have hk : ((((w.alloc Z8r).alloc KeyF).alloc (.cells #[.int .u8 (n : Int)] 5)).alloc (.cells #[.slice (some ⟨w.heap.size + 1 + 1, 0, none⟩) 1 1, .slice ao n po, .slice ap m pp] 22)).heap[w.heap.size + 1]? = some KeyF := by
    rw [Below.heap_alloc _ _ _ (by rw [s2]; omega), Below.heap_alloc _ _ _ (by rw [s1]; omega), ← s0]
    exact (MapKept.heap_alloc _ _).1
  have hz : ((((w.alloc Z8r).alloc KeyF).alloc (.cells #[.int .u8 (n : Int)] 5)).alloc (.cells #[.slice (some ⟨w.heap.size + 1 + 1, 0, none⟩) 1 1, .slice ao n po, .slice ap m pp] 22)).heap[w.heap.size]? = some Z8r := by
    rw [Below.heap_alloc _ _ _ (by rw [s2]; omega), Below.heap_alloc _ _ _ (by rw [s1]; omega), Below.heap_alloc _ _ _ (by rw [s0]; omega)]
    exact (MapKept.heap_alloc _ _).1
  have ef : ([[(n : Int)], o, p] : List (List Int)).flatten = ((o.length : Int) :: o) ++ p := by rw [eo]; simp
  have CP := iparts _ _ retryK _ _ (key_row hk) retryK_bytes (by decide) HP (bytes_getD3 (bytes_cons (by omega) (by omega) (by intro x hx; simp at hx)) bo bp) (by simp; omega) (by simp)
  rw [ef] at CP
  have hdl := digV_length retryK (((o.length : Int) :: o) ++ p)
  have hz3 : w.heap.size < ((((w.alloc Z8r).alloc KeyF).alloc (.cells #[.int .u8 (n : Int)] 5)).alloc (.cells #[.slice (some ⟨w.heap.size + 1 + 1, 0, none⟩) 1 1, .slice ao n po, .slice ap m pp] 22)).heap.size := (Array.getElem?_eq_some_iff.1 hz).1
  have HH : Hid _ := And.intro CP (And.intro B3 (And.intro hz (And.intro hz3 hdl)))
  clear CP B0 B1 B2 s0 s1 s2 r1 HP B3 hk hz ro rp eo ep bo bp ef hdl hz3
  go_enter Tryd.func34, Tryd.ntmps34
  go_wp2_with fail
  go_at_call 51
  refine HH.out.1.mono ?_
  rintro e w1 ⟨rfl, b1⟩
  have H1 : Hid _ := And.intro (HH.out.2.1.trans (b1.mono HH.out.2.1.size)) ((b1.block w.heap.size HH.out.2.2.2.1).trans HH.out.2.2.1)
  have z1 : w.heap.size < w1.heap.size := (Array.getElem?_eq_some_iff.1 H1.out.2).1
  clear b1
  obtain ⟨D, eD⟩ : ∃ D, D = digV retryK (((o.length : Int) :: o) ++ p) := ⟨_, rfl⟩
  have HD : Hid (D.length = 16 ∧ retV o p = D.take 8) := And.intro (by rw [eD]; exact HH.out.2.2.2.2) (by rw [eD]; rfl)
  rw [← eD]
  clear eD
  go_wp2_with (refine wpList_store_at rfl 79 (.tmp 5) (.tmp 16) rfl w1.heap.size _ rfl rfl 79 _ (MapKept.heap_alloc w1 _).1 (infoBs _ HD.out.1) (by simp [u8s_length, HD.out.1]) (u8s_all _) ?_; intro w2 h2 m2)
  have C2 : Below w.heap.size w w2 := (H1.out.1.alloc H1.out.1.size _).trans (m2.below H1.out.1.size)
  have z2 : w1.heap.size < w2.heap.size := (Array.getElem?_eq_some_iff.1 h2).1
  have k2 : w2.heap[w.heap.size]? = some Z8r := (m2.block w.heap.size (fun e => by have := Option.some.inj e; omega)).trans ((Below.heap_alloc _ _ _ z1).trans H1.out.2)
  have R2 : Hid (Row (w2.alloc Z8r).drew .u8 (.slice (some ⟨w1.heap.size, 0, none⟩) 16 16) D) := by
    show Row _ _ _ _
    have h := row_partr (w := (w2.alloc Z8r).drew) (off := 0) (n := 16) (c := 16) ((Below.heap_alloc w2 Z8r _ z2).trans h2) (by rw [HD.out.1]; decide) (by decide) (by decide)
    rwa [List.drop_zero, List.take_of_length_le (by rw [HD.out.1]; decide)] at h
  have G2 : Hid ((w2.alloc Z8r).drew.heap[w2.heap.size]? = some (.cells (u8s (List.replicate 8 0)).toArray 54 (0, 0))) := (MapKept.heap_alloc w2 Z8r).1
  have H2 : Hid _ := And.intro (C2.alloc C2.size Z8r) ((Below.heap_alloc w2 Z8r _ (Nat.lt_trans z1 z2)).trans k2)
  have z2w : w.heap.size ≤ w2.heap.size := C2.size
  clear h2 m2 C2 k2
  go_region_law (refine step_copy_at rfl (.tmp 17) (.tmp 18) 22 22 rfl 5 Tryd.underlying22 infoU8s w2.heap.size 0 8 8 _ rfl rfl D R2.out (by rw [HD.out.1]; decide) (List.replicate 8 0) 54 G2.out 8 (by rw [HD.out.1]; rfl) (by simp) ?_; intro w3 h3 m3)
  all_goals
    have e3 : splice (List.replicate 8 (0 : Int)) 0 (D.take 8) = retV o p := by
      rw [HD.out.2]
      simp [splice, HD.out.1]
    rw [e3] at h3
    have C3 : Below w.heap.size w w3 := (below_drewN H2.out.1 1).trans (m3.below z2w)
    have k3 : w3.heap[w.heap.size]? = some Z8r := (m3.block w.heap.size (fun e => by have := Option.some.inj e; omega)).trans H2.out.2
    have H3 : Hid _ := And.intro C3 (And.intro h3 k3)
    clear e3 h3 m3 C3 k3
    go_wp2_with (first
      | (refine wpList_load_row rfl 54 (.tmp 6) rfl w2.heap.size rfl 54 _ (0, 0) _ H3.out.2.1 Tryd.underlying54 rfl (infoR8s _ (retV_length _ _)) ?_)
      | (refine wpList_store_at rfl 54 (.tmp 4) (.tmp 20) rfl w.heap.size _ rfl rfl 54 _ H3.out.2.2 (infoR8s _ (retV_length _ _)) (by simp [u8s_length, retV_length]) (u8s_all _) ?_; intro w4 h4 m4))
    try simp only [Exit.inBlock, Exit.then]
    refine bodyPost_ret (v := .agg (u8s (retV o p)).toArray) ?_ rfl ?_
    · exact results_cell_row (t := 54) rfl _ _ w.heap.size _ (fr := (0, 0)) _ rfl h4 Tryd.underlying54 rfl (infoR8s _ (retV_length _ _))
    · exact ⟨rfl, H3.out.1.trans (m4.below (Nat.le_refl _))⟩
end Go.Proofs.YtbbiinbjgognjaaDoor

namespace Go.Proofs.YtbbiinbjgognjaaDoor
open Go.RowKit
set_option linter.unusedVariables false
set_option linter.unusedSimpArgs false

theorem eqEl (x y : Int) (d : Nat) (w : World) : (Op.equalIn (d + 1) 5 (.int .u8 x) (.int .u8 y)).run Tryd.prog w = .ok (x == y) w := run_equalIn_int (w := w) d 5 .u8 .u8 x y Tryd.underlying5
theorem eq8 (x0 x1 x2 x3 x4 x5 x6 x7 y0 y1 y2 y3 y4 y5 y6 y7 : Int) (d : Nat) (w : World) :
    (Op.equalIn (d + 1 + 1) 54 (.agg #[.int .u8 x0, .int .u8 x1, .int .u8 x2, .int .u8 x3, .int .u8 x4, .int .u8 x5, .int .u8 x6, .int .u8 x7]) (.agg #[.int .u8 y0, .int .u8 y1, .int .u8 y2, .int .u8 y3, .int .u8 y4, .int .u8 y5, .int .u8 y6, .int .u8 y7])).run Tryd.prog w = .ok (decide ([x0, x1, x2, x3, x4, x5, x6, x7] = [y0, y1, y2, y3, y4, y5, y6, y7])) w := by
  obtain ⟨i0, hi, hz0, hz1, hz2⟩ := info_parts infoU8
  have hs : ∀ w, (sizeOf 5).run Tryd.prog w = .ok 1 w := by
    intro w
    simp [sizeOf, typeInfo, hi, hz1]
  have hp : ∀ (a : Array Value) (i : Nat) (v : Value) (w : World), a[i]? = some v → (part 5 a i).run Tryd.prog w = .ok v w := by
    intro a i v w h
    simp [part, h]
  have px0 : ∀ w, (part 5 #[.int .u8 x0, .int .u8 x1, .int .u8 x2, .int .u8 x3, .int .u8 x4, .int .u8 x5, .int .u8 x6, .int .u8 x7] 0).run Tryd.prog w = .ok (.int .u8 x0) w := fun w => hp _ _ _ w rfl
  have py0 : ∀ w, (part 5 #[.int .u8 y0, .int .u8 y1, .int .u8 y2, .int .u8 y3, .int .u8 y4, .int .u8 y5, .int .u8 y6, .int .u8 y7] 0).run Tryd.prog w = .ok (.int .u8 y0) w := fun w => hp _ _ _ w rfl
  have px1 : ∀ w, (part 5 #[.int .u8 x0, .int .u8 x1, .int .u8 x2, .int .u8 x3, .int .u8 x4, .int .u8 x5, .int .u8 x6, .int .u8 x7] 1).run Tryd.prog w = .ok (.int .u8 x1) w := fun w => hp _ _ _ w rfl
  have py1 : ∀ w, (part 5 #[.int .u8 y0, .int .u8 y1, .int .u8 y2, .int .u8 y3, .int .u8 y4, .int .u8 y5, .int .u8 y6, .int .u8 y7] 1).run Tryd.prog w = .ok (.int .u8 y1) w := fun w => hp _ _ _ w rfl
  have px2 : ∀ w, (part 5 #[.int .u8 x0, .int .u8 x1, .int .u8 x2, .int .u8 x3, .int .u8 x4, .int .u8 x5, .int .u8 x6, .int .u8 x7] 2).run Tryd.prog w = .ok (.int .u8 x2) w := fun w => hp _ _ _ w rfl
  have py2 : ∀ w, (part 5 #[.int .u8 y0, .int .u8 y1, .int .u8 y2, .int .u8 y3, .int .u8 y4, .int .u8 y5, .int .u8 y6, .int .u8 y7] 2).run Tryd.prog w = .ok (.int .u8 y2) w := fun w => hp _ _ _ w rfl
  have px3 : ∀ w, (part 5 #[.int .u8 x0, .int .u8 x1, .int .u8 x2, .int .u8 x3, .int .u8 x4, .int .u8 x5, .int .u8 x6, .int .u8 x7] 3).run Tryd.prog w = .ok (.int .u8 x3) w := fun w => hp _ _ _ w rfl
  have py3 : ∀ w, (part 5 #[.int .u8 y0, .int .u8 y1, .int .u8 y2, .int .u8 y3, .int .u8 y4, .int .u8 y5, .int .u8 y6, .int .u8 y7] 3).run Tryd.prog w = .ok (.int .u8 y3) w := fun w => hp _ _ _ w rfl
  have px4 : ∀ w, (part 5 #[.int .u8 x0, .int .u8 x1, .int .u8 x2, .int .u8 x3, .int .u8 x4, .int .u8 x5, .int .u8 x6, .int .u8 x7] 4).run Tryd.prog w = .ok (.int .u8 x4) w := fun w => hp _ _ _ w rfl
  have py4 : ∀ w, (part 5 #[.int .u8 y0, .int .u8 y1, .int .u8 y2, .int .u8 y3, .int .u8 y4, .int .u8 y5, .int .u8 y6, .int .u8 y7] 4).run Tryd.prog w = .ok (.int .u8 y4) w := fun w => hp _ _ _ w rfl
  have px5 : ∀ w, (part 5 #[.int .u8 x0, .int .u8 x1, .int .u8 x2, .int .u8 x3, .int .u8 x4, .int .u8 x5, .int .u8 x6, .int .u8 x7] 5).run Tryd.prog w = .ok (.int .u8 x5) w := fun w => hp _ _ _ w rfl
  have py5 : ∀ w, (part 5 #[.int .u8 y0, .int .u8 y1, .int .u8 y2, .int .u8 y3, .int .u8 y4, .int .u8 y5, .int .u8 y6, .int .u8 y7] 5).run Tryd.prog w = .ok (.int .u8 y5) w := fun w => hp _ _ _ w rfl
  have px6 : ∀ w, (part 5 #[.int .u8 x0, .int .u8 x1, .int .u8 x2, .int .u8 x3, .int .u8 x4, .int .u8 x5, .int .u8 x6, .int .u8 x7] 6).run Tryd.prog w = .ok (.int .u8 x6) w := fun w => hp _ _ _ w rfl
  have py6 : ∀ w, (part 5 #[.int .u8 y0, .int .u8 y1, .int .u8 y2, .int .u8 y3, .int .u8 y4, .int .u8 y5, .int .u8 y6, .int .u8 y7] 6).run Tryd.prog w = .ok (.int .u8 y6) w := fun w => hp _ _ _ w rfl
  have px7 : ∀ w, (part 5 #[.int .u8 x0, .int .u8 x1, .int .u8 x2, .int .u8 x3, .int .u8 x4, .int .u8 x5, .int .u8 x6, .int .u8 x7] 7).run Tryd.prog w = .ok (.int .u8 x7) w := fun w => hp _ _ _ w rfl
  have py7 : ∀ w, (part 5 #[.int .u8 y0, .int .u8 y1, .int .u8 y2, .int .u8 y3, .int .u8 y4, .int .u8 y5, .int .u8 y6, .int .u8 y7] 7).run Tryd.prog w = .ok (.int .u8 y7) w := fun w => hp _ _ _ w rfl
  rw [Op.equalIn]
  simp only [Sem.run_bind, run_underlying Tryd.underlying54, Result.andThen_ok, hs, Nat.mul_one]
  rw [Std.Legacy.Range.forIn_eq_forIn_range']
  simp only [Std.Legacy.Range.size, List.range'_succ, List.range'_zero, List.forIn_cons, List.forIn_nil]
  by_cases h0 : x0 = y0
  · subst h0
    by_cases h1 : x1 = y1
    · subst h1
      by_cases h2 : x2 = y2
      · subst h2
        by_cases h3 : x3 = y3
        · subst h3
          by_cases h4 : x4 = y4
          · subst h4
            by_cases h5 : x5 = y5
            · subst h5
              by_cases h6 : x6 = y6
              · subst h6
                by_cases h7 : x7 = y7
                · subst h7
                  simp [Sem.run_bind, px0, px1, px2, px3, px4, px5, px6, px7, eqEl]
                · simp [Sem.run_bind, px0, py0, px1, py1, px2, py2, px3, py3, px4, py4, px5, py5, px6, py6, px7, py7, eqEl, h7]
              · simp [Sem.run_bind, px0, py0, px1, py1, px2, py2, px3, py3, px4, py4, px5, py5, px6, py6, eqEl, h6]
            · simp [Sem.run_bind, px0, py0, px1, py1, px2, py2, px3, py3, px4, py4, px5, py5, eqEl, h5]
          · simp [Sem.run_bind, px0, py0, px1, py1, px2, py2, px3, py3, px4, py4, eqEl, h4]
        · simp [Sem.run_bind, px0, py0, px1, py1, px2, py2, px3, py3, eqEl, h3]
      · simp [Sem.run_bind, px0, py0, px1, py1, px2, py2, eqEl, h2]
    · simp [Sem.run_bind, px0, py0, px1, py1, eqEl, h1]
  · simp [Sem.run_bind, px0, py0, eqEl, h0]
end Go.Proofs.YtbbiinbjgognjaaDoor

namespace Go.Proofs.YtbbiinbjgognjaaDoor
open Go.RowKit
set_option linter.unusedVariables false

theorem listR8 (A : List Int) (h : A.length = 8) : ∃ a0 a1 a2 a3 a4 a5 a6 a7 : Int, A = [a0, a1, a2, a3, a4, a5, a6, a7] := by
  match A, h with
  | [a0, a1, a2, a3, a4, a5, a6, a7], _ => exact ⟨a0, a1, a2, a3, a4, a5, a6, a7, rfl⟩
theorem infoU8r : (Tryd.prog.info? 5).map (·.size) = some 1 := by kernel_rfl
theorem neq8_run (x0 x1 x2 x3 x4 x5 x6 x7 y0 y1 y2 y3 y4 y5 y6 y7 : Int) (w : World) : (binOp .neq 54 (.agg #[.int .u8 x0, .int .u8 x1, .int .u8 x2, .int .u8 x3, .int .u8 x4, .int .u8 x5, .int .u8 x6, .int .u8 x7]) (.agg #[.int .u8 y0, .int .u8 y1, .int .u8 y2, .int .u8 y3, .int .u8 y4, .int .u8 y5, .int .u8 y6, .int .u8 y7])).run Tryd.prog w = .ok (.bool (!(decide ([x0, x1, x2, x3, x4, x5, x6, x7] = [y0, y1, y2, y3, y4, y5, y6, y7])))) w := by
  have EQ := eq8 x0 x1 x2 x3 x4 x5 x6 x7 y0 y1 y2 y3 y4 y5 y6 y7 9998 w
  generalize hX : (Value.agg #[.int .u8 x0, .int .u8 x1, .int .u8 x2, .int .u8 x3, .int .u8 x4, .int .u8 x5, .int .u8 x6, .int .u8 x7]) = X at EQ ⊢
  generalize hY : (Value.agg #[.int .u8 y0, .int .u8 y1, .int .u8 y2, .int .u8 y3, .int .u8 y4, .int .u8 y5, .int .u8 y6, .int .u8 y7]) = Y at EQ ⊢
  subst hX hY
  unfold binOp
  simp only [Op.equal]
  have EQ' : (Op.equalIn Op.maxDepth 54 (Value.agg #[.int .u8 x0, .int .u8 x1, .int .u8 x2, .int .u8 x3, .int .u8 x4, .int .u8 x5, .int .u8 x6, .int .u8 x7]) (Value.agg #[.int .u8 y0, .int .u8 y1, .int .u8 y2, .int .u8 y3, .int .u8 y4, .int .u8 y5, .int .u8 y6, .int .u8 y7])).run Tryd.prog w = _ := EQ
  simp only [Sem.run_bind, EQ', Result.andThen_ok, Sem.run_pure]
theorem grd8_run (p q : Operand) (X Y : Array Value) (w : World) : (eqGuard .neq 54 p q (.agg X) (.agg Y)).run Tryd.prog w = .ok () w := by
  simp [eqGuard]
theorem HOwn.st8I {w : World} {base base' g : Nat} {v2 v3 v4 a0 a1 a2 a3 a4 a5 a6 a7 : Value} {h : H8} (k : HOwn w base v2 v3 v4 h) (hg : g < base) (hb : base' ≤ base) : HOwn (st8 w g a0 a1 a2 a3 a4 a5 a6 a7) base' v2 v3 v4 h :=
  ⟨owns_mono (st8_owns k.o0 hg) hb, owns_mono (st8_owns k.o1 hg) hb, owns_mono (st8_owns k.o2 hg) hb, k.a01, k.a02, k.a12⟩
theorem HOwn.belowI {w w' : World} {base : Nat} {v2 v3 v4 : Value} {h : H8} (k : HOwn w base v2 v3 v4 h) (hb : Below w.heap.size w w') : HOwn w' base v2 v3 v4 h :=
  ⟨owns_below k.o0 hb, owns_below k.o1 hb, owns_below k.o2 hb, k.a01, k.a02, k.a12⟩
theorem HOwn.onlyI {w w' : World} {base : Nat} {g : Nat} {v2 v3 v4 : Value} {h : H8} (ho : Only (some g) w w') (k : HOwn w base v2 v3 v4 h) (hn : ∀ v : Value, v = v2 ∨ v = v3 ∨ v = v4 → ∀ j, v.ownBlock = some j → j < g) : HOwn w' base v2 v3 v4 h :=
  ⟨ho.owns k.o0 (fun j hj e => by have := hn v2 (Or.inl rfl) j hj; have := Option.some.inj e; omega), ho.owns k.o1 (fun j hj e => by have := hn v3 (Or.inr (Or.inl rfl)) j hj; have := Option.some.inj e; omega), ho.owns k.o2 (fun j hj e => by have := hn v4 (Or.inr (Or.inr rfl)) j hj; have := Option.some.inj e; omega), k.a01, k.a02, k.a12⟩

set_option maxRecDepth 200000 in
set_option maxHeartbeats 8000000 in
theorem roU_ok (b off q cap : Nat) (ap : Option Addr) (m cp : Nat) (K : PK) (xs o : List Int) (w : World) (hq : q ≤ 87) (hm : m ≤ 8) (hlie : Lies w b off (q + 8) cap xs) (hB : Bytes xs) (ro : Row w .u8 (.slice ap m cp) o) (eo : o.length = m) (bo : Bytes o) (h3 : K.f = 3) (hp : Calls Tryd.prog 28 #[.slice (some ⟨b, off, none⟩) (q + 8) cap, .int .i64 0] ((w.alloc hd0).alloc (.cells #[.slice ap m cp] 22)) fun e w' => Below ((w.alloc hd0).alloc (.cells #[.slice ap m cp] 22)).heap.size ((w.alloc hd0).alloc (.cells #[.slice ap m cp] 22)) w' ∧ ∃ vd vs vt vv, e = .returned (.tuple #[.agg (pkA K vd vs vt vv), .nilIface]) ∧ HOwn w' ((w.alloc hd0).alloc (.cells #[.slice ap m cp] 22)).heap.size vd vs vt ⟨K.f, K.v, K.d, K.s, K.t, 0, 0, 0⟩ ∧ w'.ownsRow ((w.alloc hd0).alloc (.cells #[.slice ap m cp] 22)).heap.size 3 1 vv K.vers.length (K.vers.map (Value.int .i64))) (heq : retV o (xs.take q) = xs.drop q) :
    Calls Tryd.prog 21 #[.slice (some ⟨b, off, none⟩) (q + 8) cap, .slice ap m cp] w fun e w' => ∃ vd vs vt, e = .returned (.tuple #[.agg #[.int .i64 K.f, .int .i64 K.v, vd, vs, vt, .int .i64 0, .int .i64 0, .int .i64 0], .int .i64 0]) ∧ HOwn w' w.heap.size vd vs vt ⟨K.f, K.v, K.d, K.s, K.t, 0, 0, 0⟩ ∧ Below w.heap.size w w' := by
  have C := ro_cidsC ap m cp o w ro eo (by omega)
  rw [decide_eq_true (by omega)] at C
  obtain ⟨kb0, k00⟩ := ro_w2 ap m cp w
  have d : decide ((65536 : Int) < (q : Int) + 8) = false := decide_eq_false (by omega)
  have d3 : (K.f != 3) = false := by simp [h3]
  have hcap : cap ≤ 9223372036854775807 := Nat.le_trans hlie.most (by decide)
  have hfit : q + 8 ≤ cap := hlie.fits
  have hne : ¬ cap = q := by omega
  have hpn : (q : Int) ≤ (cap : Int) := by omega
  have hpn8 : (q : Int) ≤ (q : Int) + 8 := by omega
  have e88 : q + 8 - q = 8 := by omega
  have rP : Row w .u8 (.slice (some ⟨b, off, none⟩) q cap) (xs.take q) := by
    have := hlie.row 0 q (by omega)
    simpa using this
  have rT : Row w .u8 (.slice (some ⟨b, off + q, none⟩) 8 (cap - q)) (xs.drop q) := by
    have := hlie.row q 8 (by omega)
    rw [List.take_of_length_le (by rw [List.length_drop, hlie.len]; omega)] at this
    exact this
  have bP : Bytes (xs.take q) := fun x hx => hB x (List.mem_of_mem_take hx)
  have lP : (xs.take q).length = q := by rw [List.length_take, hlie.len]; omega
  have lT : (xs.drop q).length = 8 := by rw [List.length_drop, hlie.len]; omega
  have HE : Hid _ := And.intro kb0 (And.intro k00 (And.intro ro (And.intro rP (And.intro rT (And.intro bP (And.intro lP (And.intro lT (And.intro eo (And.intro bo (And.intro hm (And.intro hq heq)))))))))))
  clear kb0 k00 hm hlie hB h3 hq ro rP rT bP lP lT eo bo heq
  go_enter Tryd.func21, Tryd.ntmps21
  go_wp2_with fail
  go_at_call 33
  refine C.mono ?_
  rintro e w1 ⟨rfl, hw⟩
  subst w1
  clear C
  go_wp2_with fail
  go_at_call 28
  refine hp.mono ?_
  clear hp
  rintro e w1 ⟨b1, vd, vs, vt, vv, rfl, q2, q3⟩
  obtain ⟨da, dp, ed⟩ := (row_of_owns q2.o0).form
  obtain ⟨sa, sp, es⟩ := (row_of_owns q2.o1).form
  obtain ⟨ta, tp, et⟩ := (row_of_owns q2.o2).form
  obtain ⟨va, vp, ev⟩ := (row_of_owns (k := .i64) q3).form
  dsimp only at ed es et
  subst ed es et ev
  unfold pkA
  have B1 : Below w.heap.size w w1 := HE.out.1.trans (b1.mono HE.out.1.size)
  have e1 := (b1.block w.heap.size (by have := HE.out.2.1; exact (Array.getElem?_eq_some_iff.1 this).1)).trans HE.out.2.1
  have l1 : w.heap.size < w1.heap.size := (Array.getElem?_eq_some_iff.1 e1).1
  have A1 : Below w1.heap.size w1 ((w1.alloc (.cells #[.int .i64 K.f, .int .i64 K.v, .slice da K.d.length dp, .slice sa K.s.length sp, .slice ta K.t.length tp, .int .i64 0, .int .i64 0, .int .i64 0, .slice va K.vers.length vp, .int .i64 K.na, .int .i64 K.fin] 46)).alloc (.cells #[.int .u8 0, .int .u8 0, .int .u8 0, .int .u8 0, .int .u8 0, .int .u8 0, .int .u8 0, .int .u8 0] 54)) := ((Below.refl _ _).alloc (Nat.le_refl _) _).alloc (by simp) _
  have kP : ((w1.alloc (.cells #[.int .i64 K.f, .int .i64 K.v, .slice da K.d.length dp, .slice sa K.s.length sp, .slice ta K.t.length tp, .int .i64 0, .int .i64 0, .int .i64 0, .slice va K.vers.length vp, .int .i64 K.na, .int .i64 K.fin] 46)).alloc (.cells #[.int .u8 0, .int .u8 0, .int .u8 0, .int .u8 0, .int .u8 0, .int .u8 0, .int .u8 0, .int .u8 0] 54)).heap[w1.heap.size]? = some (.cells #[.int .i64 K.f, .int .i64 K.v, .slice da K.d.length dp, .slice sa K.s.length sp, .slice ta K.t.length tp, .int .i64 0, .int .i64 0, .int .i64 0, .slice va K.vers.length vp, .int .i64 K.na, .int .i64 K.fin] 46 (0, 0)) := by
    rw [Below.heap_alloc _ _ _ (by simp)]; exact heap_alloc_new w1 _
  have k8 : ((w1.alloc (.cells #[.int .i64 K.f, .int .i64 K.v, .slice da K.d.length dp, .slice sa K.s.length sp, .slice ta K.t.length tp, .int .i64 0, .int .i64 0, .int .i64 0, .slice va K.vers.length vp, .int .i64 K.na, .int .i64 K.fin] 46)).alloc (.cells #[.int .u8 0, .int .u8 0, .int .u8 0, .int .u8 0, .int .u8 0, .int .u8 0, .int .u8 0, .int .u8 0] 54)).heap[w1.heap.size + 1]? = some (.cells #[.int .u8 0, .int .u8 0, .int .u8 0, .int .u8 0, .int .u8 0, .int .u8 0, .int .u8 0, .int .u8 0] 54 (0, 0)) := by
    have := heap_alloc_new (w1.alloc (.cells #[.int .i64 K.f, .int .i64 K.v, .slice da K.d.length dp, .slice sa K.s.length sp, .slice ta K.t.length tp, .int .i64 0, .int .i64 0, .int .i64 0, .slice va K.vers.length vp, .int .i64 K.na, .int .i64 K.fin] 46)) (.cells #[.int .u8 0, .int .u8 0, .int .u8 0, .int .u8 0, .int .u8 0, .int .u8 0, .int .u8 0, .int .u8 0] 54)
    simpa using this
  have k0 : hdB ((w1.alloc (.cells #[.int .i64 K.f, .int .i64 K.v, .slice da K.d.length dp, .slice sa K.s.length sp, .slice ta K.t.length tp, .int .i64 0, .int .i64 0, .int .i64 0, .slice va K.vers.length vp, .int .i64 K.na, .int .i64 K.fin] 46)).alloc (.cells #[.int .u8 0, .int .u8 0, .int .u8 0, .int .u8 0, .int .u8 0, .int .u8 0, .int .u8 0, .int .u8 0] 54)) w.heap.size (.int .i64 0) (.int .i64 0) (.slice none 0 0) (.slice none 0 0) (.slice none 0 0) (.int .i64 0) (.int .i64 0) (.int .i64 0) := (A1.block w.heap.size l1).trans e1
  have hol : ∀ v : Value, v = .slice da K.d.length dp ∨ v = .slice sa K.s.length sp ∨ v = .slice ta K.t.length tp → ∀ j, v.ownBlock = some j → j < w1.heap.size + 1 := by
    intro v hv j hj
    rcases hv with rfl | rfl | rfl
    · have := (q2.o0.lt j hj).2; omega
    · have := (q2.o1.lt j hj).2; omega
    · have := (q2.o2.lt j hj).2; omega
  have lb : ((w.alloc hd0).alloc (.cells #[.slice ap m cp] 22)).heap.size = w.heap.size + 2 := by simp
  have ho2 := q2.belowI A1
  rw [lb] at ho2
  have H0 : Hid _ := And.intro kP (And.intro k8 (And.intro k0 (And.intro (B1.trans (A1.mono B1.size)) (And.intro ho2 (And.intro hol l1)))))
  clear kP k8 k0 ho2 A1 e1 B1 b1 lb q2 q3 hol l1
  go_wp2_with fail
  generalize (w1.alloc (.cells #[.int .i64 K.f, .int .i64 K.v, .slice da K.d.length dp, .slice sa K.s.length sp, .slice ta K.t.length tp, .int .i64 0, .int .i64 0, .int .i64 0, .slice va K.vers.length vp, .int .i64 K.na, .int .i64 K.fin] 46)).alloc (.cells #[.int .u8 0, .int .u8 0, .int .u8 0, .int .u8 0, .int .u8 0, .int .u8 0, .int .u8 0, .int .u8 0] 54) = W at H0 ⊢
  have RD : Hid (Row W.drew .u8 (.slice (some ⟨b, off + q, none⟩) 8 (cap - q)) (xs.drop q)) := HE.out.2.2.2.2.1.below H0.out.2.2.2.1.drew
  have G8 : Hid (W.drew.heap[w1.heap.size + 1]? = some (.cells (u8s (List.replicate 8 0)).toArray 54 (0, 0))) := H0.out.2.1
  have g8l : w1.heap.size + 1 < W.heap.size := (Array.getElem?_eq_some_iff.1 H0.out.2.1).1
  go_region_law (refine step_copy_at rfl (.tmp 37) (.tmp 40) 22 22 rfl 5 Tryd.underlying22 infoU8r (w1.heap.size + 1) 0 8 8 _ rfl rfl (xs.drop q) RD.out (by rw [HE.out.2.2.2.2.2.2.2.1]; decide) (List.replicate 8 0) 54 G8.out 8 (by rw [HE.out.2.2.2.2.2.2.2.1]; rfl) (by simp) ?_; intro w3 h3 m3)
  have e3 : splice (List.replicate 8 (0 : Int)) 0 ((xs.drop q).take 8) = xs.drop q := by
    have : ((xs.drop q).take 8) = xs.drop q := List.take_of_length_le (by rw [HE.out.2.2.2.2.2.2.2.1]; decide)
    rw [this]
    simp [splice, HE.out.2.2.2.2.2.2.2.1]
  rw [e3] at h3
  have B3 : Below w.heap.size w w3 := H0.out.2.2.2.1.drew.trans (m3.below (by have := H0.out.2.2.2.2.2.2; omega))
  have P3 := (m3.block w1.heap.size (fun e => by have := Option.some.inj e; omega)).trans H0.out.1
  have Z3 := (m3.block w.heap.size (fun e => by have := Option.some.inj e; have := H0.out.2.2.2.2.2.2; omega)).trans H0.out.2.2.1
  have O3 := HOwn.onlyI m3 (H0.out.2.2.2.2.1.belowI (Below.refl _ _).drew) H0.out.2.2.2.2.2.1
  obtain ⟨t0, t1, t2, t3, t4, t5, t6, t7, et⟩ := listR8 (xs.drop q) HE.out.2.2.2.2.2.2.2.1
  obtain ⟨r0, r1, r2, r3, r4, r5, r6, r7, er⟩ := listR8 (retV o (xs.take q)) (retV_length _ _)
  rw [et] at h3
  have h3' : w3.heap[w1.heap.size + 1]? = some (.cells #[.int .u8 t0, .int .u8 t1, .int .u8 t2, .int .u8 t3, .int .u8 t4, .int .u8 t5, .int .u8 t6, .int .u8 t7] 54 (0, 0)) := h3
  have CT := iretTag ap (some ⟨b, off, none⟩) m q cp cap o (xs.take q) w3.drew (HE.out.2.2.1.below B3.drew) (HE.out.2.2.2.1.below B3.drew) HE.out.2.2.2.2.2.2.2.2.1 HE.out.2.2.2.2.2.2.1 HE.out.2.2.2.2.2.2.2.2.2.2.1 (by have := HE.out.2.2.2.2.2.2.2.2.2.2.2.1; omega) HE.out.2.2.2.2.2.2.2.2.2.1 HE.out.2.2.2.2.2.1
  rw [er] at CT
  have CT' : Calls Tryd.prog 34 #[.slice ap m cp, .slice (some ⟨b, off, none⟩) q cap] w3.drew fun e w' => e = .returned (.agg #[.int .u8 r0, .int .u8 r1, .int .u8 r2, .int .u8 r3, .int .u8 r4, .int .u8 r5, .int .u8 r6, .int .u8 r7]) ∧ Below w3.drew.heap.size w3.drew w' := CT
  have nb := neq8_run r0 r1 r2 r3 r4 r5 r6 r7 t0 t1 t2 t3 t4 t5 t6 t7
  have hcmp : decide ([r0, r1, r2, r3, r4, r5, r6, r7] = [t0, t1, t2, t3, t4, t5, t6, t7]) = true := by rw [← et, ← er]; exact decide_eq_true HE.out.2.2.2.2.2.2.2.2.2.2.2.2
  rw [hcmp] at nb
  have gd := fun (w : World) => grd8_run (.tmp 46) (.tmp 47) #[.int .u8 r0, .int .u8 r1, .int .u8 r2, .int .u8 r3, .int .u8 r4, .int .u8 r5, .int .u8 r6, .int .u8 r7] #[.int .u8 t0, .int .u8 t1, .int .u8 t2, .int .u8 t3, .int .u8 t4, .int .u8 t5, .int .u8 t6, .int .u8 t7] w
  have H3 : Hid _ := And.intro h3' (And.intro P3 (And.intro Z3 (And.intro B3 (And.intro O3 CT'))))
  have g83 : w1.heap.size + 1 < w3.heap.size := (Array.getElem?_eq_some_iff.1 h3').1
  have s0 : w3.drew.cell? ⟨(w1.heap.size + 1), 0, none⟩ = some (.int .u8 t0) := bk_cell h3' 0
  have s1 : w3.drew.cell? ⟨(w1.heap.size + 1), 1, none⟩ = some (.int .u8 t1) := bk_cell h3' 1
  have s2 : w3.drew.cell? ⟨(w1.heap.size + 1), 2, none⟩ = some (.int .u8 t2) := bk_cell h3' 2
  have s3 : w3.drew.cell? ⟨(w1.heap.size + 1), 3, none⟩ = some (.int .u8 t3) := bk_cell h3' 3
  have s4 : w3.drew.cell? ⟨(w1.heap.size + 1), 4, none⟩ = some (.int .u8 t4) := bk_cell h3' 4
  have s5 : w3.drew.cell? ⟨(w1.heap.size + 1), 5, none⟩ = some (.int .u8 t5) := bk_cell h3' 5
  have s6 : w3.drew.cell? ⟨(w1.heap.size + 1), 6, none⟩ = some (.int .u8 t6) := bk_cell h3' 6
  have s7 : w3.drew.cell? ⟨(w1.heap.size + 1), 7, none⟩ = some (.int .u8 t7) := bk_cell h3' 7

  clear e3 h3 m3 B3 P3 Z3 O3 CT CT' h3' RD G8 hcmp et er
  go_wp2_with fail
  go_region_with (first | (go_at_call 34; refine H3.out.2.2.2.2.2.mono ?_; rintro e w4 ⟨rfl, b4⟩; have b34 : Below w3.heap.size w3 w4 := ((Below.refl _ _).drew).trans b4; have k84 := (b34.block (w1.heap.size + 1) g83).trans H3.out.1; have kP4 := (b34.block w1.heap.size (by omega)).trans H3.out.2.1; have k04 := (b34.block w.heap.size (Array.getElem?_eq_some_iff.1 H3.out.2.2.1).1).trans H3.out.2.2.1; have H4 : Hid _ := And.intro k04 (And.intro (H3.out.2.2.2.1.trans (b34.mono H3.out.2.2.2.1.size)) (H3.out.2.2.2.2.1.belowI b34)); have n0 : w4.cell? ⟨(w1.heap.size + 1), 0, none⟩ = some (.int .u8 t0) := bk_cell k84 0; have n1 : w4.cell? ⟨(w1.heap.size + 1), 1, none⟩ = some (.int .u8 t1) := bk_cell k84 1; have n2 : w4.cell? ⟨(w1.heap.size + 1), 2, none⟩ = some (.int .u8 t2) := bk_cell k84 2; have n3 : w4.cell? ⟨(w1.heap.size + 1), 3, none⟩ = some (.int .u8 t3) := bk_cell k84 3; have n4 : w4.cell? ⟨(w1.heap.size + 1), 4, none⟩ = some (.int .u8 t4) := bk_cell k84 4; have n5 : w4.cell? ⟨(w1.heap.size + 1), 5, none⟩ = some (.int .u8 t5) := bk_cell k84 5; have n6 : w4.cell? ⟨(w1.heap.size + 1), 6, none⟩ = some (.int .u8 t6) := bk_cell k84 6; have n7 : w4.cell? ⟨(w1.heap.size + 1), 7, none⟩ = some (.int .u8 t7) := bk_cell k84 7; have p0 : w4.cell? ⟨w1.heap.size, 0, none⟩ = some (.int .i64 K.f) := bk_cell kP4 0; have p1 : w4.cell? ⟨w1.heap.size, 1, none⟩ = some (.int .i64 K.v) := bk_cell kP4 1; have p2 : w4.cell? ⟨w1.heap.size, 2, none⟩ = some (.slice da K.d.length dp) := bk_cell kP4 2; have p3 : w4.cell? ⟨w1.heap.size, 3, none⟩ = some (.slice sa K.s.length sp) := bk_cell kP4 3; have p4 : w4.cell? ⟨w1.heap.size, 4, none⟩ = some (.slice ta K.t.length tp) := bk_cell kP4 4; have p5 : w4.cell? ⟨w1.heap.size, 5, none⟩ = some (.int .i64 0) := bk_cell kP4 5; have p6 : w4.cell? ⟨w1.heap.size, 6, none⟩ = some (.int .i64 0) := bk_cell kP4 6; have p7 : w4.cell? ⟨w1.heap.size, 7, none⟩ = some (.int .i64 0) := bk_cell kP4 7; have p8 : w4.cell? ⟨w1.heap.size, 8, none⟩ = some (.slice va K.vers.length vp) := bk_cell kP4 8; have p9 : w4.cell? ⟨w1.heap.size, 9, none⟩ = some (.int .i64 K.na) := bk_cell kP4 9; have p10 : w4.cell? ⟨w1.heap.size, 10, none⟩ = some (.int .i64 K.fin) := bk_cell kP4 10; obtain ⟨zc0, zc1, zc2, zc3, zc4, zc5, zc6, zc7⟩ := hdB_cells k04; obtain ⟨zf0, zf1, zf2, zf3, zf4, zf5, zf6, zf7⟩ := hdB_free k04; clear k84 kP4 k04 b34 b4))
  all_goals
    go_wp2_with fail
    refine bodyPost_ret (v := .tuple #[.agg #[.int .i64 K.f, .int .i64 K.v, .slice da K.d.length dp, .slice sa K.s.length sp, .slice ta K.t.length tp, .int .i64 0, .int .i64 0, .int .i64 0], .int .i64 0]) ?_ rfl ?_
    · exact results_row_tmp (t := 24) rfl _ _ w.heap.size _ (fr := (0, 0)) _ _ rfl rfl (st8_heap (a0 := .int .i64 K.f) (a1 := .int .i64 K.v) (a2 := .slice da K.d.length dp) (a3 := .slice sa K.s.length sp) (a4 := .slice ta K.t.length tp) (a5 := .int .i64 0) (a6 := .int .i64 0) (a7 := .int .i64 0) H4.out.1) Tryd.underlying24 rfl infoHd
    · exact ⟨_, _, _, rfl, H4.out.2.2.st8I (by omega) (by omega), st8_below (a0 := .int .i64 K.f) (a1 := .int .i64 K.v) (a2 := .slice da K.d.length dp) (a3 := .slice sa K.s.length sp) (a4 := .slice ta K.t.length tp) (a5 := .int .i64 0) (a6 := .int .i64 0) (a7 := .int .i64 0) H4.out.2.1 (Nat.le_refl _)⟩
set_option maxRecDepth 200000 in
set_option maxHeartbeats 8000000 in
theorem roU_bad (b off q cap : Nat) (ap : Option Addr) (m cp : Nat) (K : PK) (xs o : List Int) (w : World) (hq : q ≤ 87) (hm : m ≤ 8) (hlie : Lies w b off (q + 8) cap xs) (hB : Bytes xs) (ro : Row w .u8 (.slice ap m cp) o) (eo : o.length = m) (bo : Bytes o) (h3 : K.f = 3) (hp : Calls Tryd.prog 28 #[.slice (some ⟨b, off, none⟩) (q + 8) cap, .int .i64 0] ((w.alloc hd0).alloc (.cells #[.slice ap m cp] 22)) fun e w' => Below ((w.alloc hd0).alloc (.cells #[.slice ap m cp] 22)).heap.size ((w.alloc hd0).alloc (.cells #[.slice ap m cp] 22)) w' ∧ ∃ vd vs vt vv, e = .returned (.tuple #[.agg (pkA K vd vs vt vv), .nilIface]) ∧ HOwn w' ((w.alloc hd0).alloc (.cells #[.slice ap m cp] 22)).heap.size vd vs vt ⟨K.f, K.v, K.d, K.s, K.t, 0, 0, 0⟩ ∧ w'.ownsRow ((w.alloc hd0).alloc (.cells #[.slice ap m cp] 22)).heap.size 3 1 vv K.vers.length (K.vers.map (Value.int .i64))) (heq : retV o (xs.take q) ≠ xs.drop q) :
    Calls Tryd.prog 21 #[.slice (some ⟨b, off, none⟩) (q + 8) cap, .slice ap m cp] w fun e w' => e = .returned (.tuple #[.agg #[.int .i64 0, .int .i64 0, .slice none 0 0, .slice none 0 0, .slice none 0 0, .int .i64 0, .int .i64 0, .int .i64 0], .int .i64 13]) ∧ Below w.heap.size w w' := by
  have C := ro_cidsC ap m cp o w ro eo (by omega)
  rw [decide_eq_true (by omega)] at C
  obtain ⟨kb0, k00⟩ := ro_w2 ap m cp w
  have d : decide ((65536 : Int) < (q : Int) + 8) = false := decide_eq_false (by omega)
  have d3 : (K.f != 3) = false := by simp [h3]
  have hcap : cap ≤ 9223372036854775807 := Nat.le_trans hlie.most (by decide)
  have hfit : q + 8 ≤ cap := hlie.fits
  have hne : ¬ cap = q := by omega
  have hpn : (q : Int) ≤ (cap : Int) := by omega
  have hpn8 : (q : Int) ≤ (q : Int) + 8 := by omega
  have e88 : q + 8 - q = 8 := by omega
  have rP : Row w .u8 (.slice (some ⟨b, off, none⟩) q cap) (xs.take q) := by
    have := hlie.row 0 q (by omega)
    simpa using this
  have rT : Row w .u8 (.slice (some ⟨b, off + q, none⟩) 8 (cap - q)) (xs.drop q) := by
    have := hlie.row q 8 (by omega)
    rw [List.take_of_length_le (by rw [List.length_drop, hlie.len]; omega)] at this
    exact this
  have bP : Bytes (xs.take q) := fun x hx => hB x (List.mem_of_mem_take hx)
  have lP : (xs.take q).length = q := by rw [List.length_take, hlie.len]; omega
  have lT : (xs.drop q).length = 8 := by rw [List.length_drop, hlie.len]; omega
  have HE : Hid _ := And.intro kb0 (And.intro k00 (And.intro ro (And.intro rP (And.intro rT (And.intro bP (And.intro lP (And.intro lT (And.intro eo (And.intro bo (And.intro hm (And.intro hq heq)))))))))))
  clear kb0 k00 hm hlie hB h3 hq ro rP rT bP lP lT eo bo heq
  go_enter Tryd.func21, Tryd.ntmps21
  go_wp2_with fail
  go_at_call 33
  refine C.mono ?_
  rintro e w1 ⟨rfl, hw⟩
  subst w1
  clear C
  go_wp2_with fail
  go_at_call 28
  refine hp.mono ?_
  clear hp
  rintro e w1 ⟨b1, vd, vs, vt, vv, rfl, q2, q3⟩
  obtain ⟨da, dp, ed⟩ := (row_of_owns q2.o0).form
  obtain ⟨sa, sp, es⟩ := (row_of_owns q2.o1).form
  obtain ⟨ta, tp, et⟩ := (row_of_owns q2.o2).form
  obtain ⟨va, vp, ev⟩ := (row_of_owns (k := .i64) q3).form
  dsimp only at ed es et
  subst ed es et ev
  unfold pkA
  have B1 : Below w.heap.size w w1 := HE.out.1.trans (b1.mono HE.out.1.size)
  have e1 := (b1.block w.heap.size (by have := HE.out.2.1; exact (Array.getElem?_eq_some_iff.1 this).1)).trans HE.out.2.1
  have l1 : w.heap.size < w1.heap.size := (Array.getElem?_eq_some_iff.1 e1).1
  have A1 : Below w1.heap.size w1 ((w1.alloc (.cells #[.int .i64 K.f, .int .i64 K.v, .slice da K.d.length dp, .slice sa K.s.length sp, .slice ta K.t.length tp, .int .i64 0, .int .i64 0, .int .i64 0, .slice va K.vers.length vp, .int .i64 K.na, .int .i64 K.fin] 46)).alloc (.cells #[.int .u8 0, .int .u8 0, .int .u8 0, .int .u8 0, .int .u8 0, .int .u8 0, .int .u8 0, .int .u8 0] 54)) := ((Below.refl _ _).alloc (Nat.le_refl _) _).alloc (by simp) _
  have kP : ((w1.alloc (.cells #[.int .i64 K.f, .int .i64 K.v, .slice da K.d.length dp, .slice sa K.s.length sp, .slice ta K.t.length tp, .int .i64 0, .int .i64 0, .int .i64 0, .slice va K.vers.length vp, .int .i64 K.na, .int .i64 K.fin] 46)).alloc (.cells #[.int .u8 0, .int .u8 0, .int .u8 0, .int .u8 0, .int .u8 0, .int .u8 0, .int .u8 0, .int .u8 0] 54)).heap[w1.heap.size]? = some (.cells #[.int .i64 K.f, .int .i64 K.v, .slice da K.d.length dp, .slice sa K.s.length sp, .slice ta K.t.length tp, .int .i64 0, .int .i64 0, .int .i64 0, .slice va K.vers.length vp, .int .i64 K.na, .int .i64 K.fin] 46 (0, 0)) := by
    rw [Below.heap_alloc _ _ _ (by simp)]; exact heap_alloc_new w1 _
  have k8 : ((w1.alloc (.cells #[.int .i64 K.f, .int .i64 K.v, .slice da K.d.length dp, .slice sa K.s.length sp, .slice ta K.t.length tp, .int .i64 0, .int .i64 0, .int .i64 0, .slice va K.vers.length vp, .int .i64 K.na, .int .i64 K.fin] 46)).alloc (.cells #[.int .u8 0, .int .u8 0, .int .u8 0, .int .u8 0, .int .u8 0, .int .u8 0, .int .u8 0, .int .u8 0] 54)).heap[w1.heap.size + 1]? = some (.cells #[.int .u8 0, .int .u8 0, .int .u8 0, .int .u8 0, .int .u8 0, .int .u8 0, .int .u8 0, .int .u8 0] 54 (0, 0)) := by
    have := heap_alloc_new (w1.alloc (.cells #[.int .i64 K.f, .int .i64 K.v, .slice da K.d.length dp, .slice sa K.s.length sp, .slice ta K.t.length tp, .int .i64 0, .int .i64 0, .int .i64 0, .slice va K.vers.length vp, .int .i64 K.na, .int .i64 K.fin] 46)) (.cells #[.int .u8 0, .int .u8 0, .int .u8 0, .int .u8 0, .int .u8 0, .int .u8 0, .int .u8 0, .int .u8 0] 54)
    simpa using this
  have k0 : hdB ((w1.alloc (.cells #[.int .i64 K.f, .int .i64 K.v, .slice da K.d.length dp, .slice sa K.s.length sp, .slice ta K.t.length tp, .int .i64 0, .int .i64 0, .int .i64 0, .slice va K.vers.length vp, .int .i64 K.na, .int .i64 K.fin] 46)).alloc (.cells #[.int .u8 0, .int .u8 0, .int .u8 0, .int .u8 0, .int .u8 0, .int .u8 0, .int .u8 0, .int .u8 0] 54)) w.heap.size (.int .i64 0) (.int .i64 0) (.slice none 0 0) (.slice none 0 0) (.slice none 0 0) (.int .i64 0) (.int .i64 0) (.int .i64 0) := (A1.block w.heap.size l1).trans e1
  have hol : ∀ v : Value, v = .slice da K.d.length dp ∨ v = .slice sa K.s.length sp ∨ v = .slice ta K.t.length tp → ∀ j, v.ownBlock = some j → j < w1.heap.size + 1 := by
    intro v hv j hj
    rcases hv with rfl | rfl | rfl
    · have := (q2.o0.lt j hj).2; omega
    · have := (q2.o1.lt j hj).2; omega
    · have := (q2.o2.lt j hj).2; omega
  have lb : ((w.alloc hd0).alloc (.cells #[.slice ap m cp] 22)).heap.size = w.heap.size + 2 := by simp
  have ho2 := q2.belowI A1
  rw [lb] at ho2
  have H0 : Hid _ := And.intro kP (And.intro k8 (And.intro k0 (And.intro (B1.trans (A1.mono B1.size)) (And.intro ho2 (And.intro hol l1)))))
  clear kP k8 k0 ho2 A1 e1 B1 b1 lb q2 q3 hol l1
  go_wp2_with fail
  generalize (w1.alloc (.cells #[.int .i64 K.f, .int .i64 K.v, .slice da K.d.length dp, .slice sa K.s.length sp, .slice ta K.t.length tp, .int .i64 0, .int .i64 0, .int .i64 0, .slice va K.vers.length vp, .int .i64 K.na, .int .i64 K.fin] 46)).alloc (.cells #[.int .u8 0, .int .u8 0, .int .u8 0, .int .u8 0, .int .u8 0, .int .u8 0, .int .u8 0, .int .u8 0] 54) = W at H0 ⊢
  have RD : Hid (Row W.drew .u8 (.slice (some ⟨b, off + q, none⟩) 8 (cap - q)) (xs.drop q)) := HE.out.2.2.2.2.1.below H0.out.2.2.2.1.drew
  have G8 : Hid (W.drew.heap[w1.heap.size + 1]? = some (.cells (u8s (List.replicate 8 0)).toArray 54 (0, 0))) := H0.out.2.1
  have g8l : w1.heap.size + 1 < W.heap.size := (Array.getElem?_eq_some_iff.1 H0.out.2.1).1
  go_region_law (refine step_copy_at rfl (.tmp 37) (.tmp 40) 22 22 rfl 5 Tryd.underlying22 infoU8r (w1.heap.size + 1) 0 8 8 _ rfl rfl (xs.drop q) RD.out (by rw [HE.out.2.2.2.2.2.2.2.1]; decide) (List.replicate 8 0) 54 G8.out 8 (by rw [HE.out.2.2.2.2.2.2.2.1]; rfl) (by simp) ?_; intro w3 h3 m3)
  have e3 : splice (List.replicate 8 (0 : Int)) 0 ((xs.drop q).take 8) = xs.drop q := by
    have : ((xs.drop q).take 8) = xs.drop q := List.take_of_length_le (by rw [HE.out.2.2.2.2.2.2.2.1]; decide)
    rw [this]
    simp [splice, HE.out.2.2.2.2.2.2.2.1]
  rw [e3] at h3
  have B3 : Below w.heap.size w w3 := H0.out.2.2.2.1.drew.trans (m3.below (by have := H0.out.2.2.2.2.2.2; omega))
  have P3 := (m3.block w1.heap.size (fun e => by have := Option.some.inj e; omega)).trans H0.out.1
  have Z3 := (m3.block w.heap.size (fun e => by have := Option.some.inj e; have := H0.out.2.2.2.2.2.2; omega)).trans H0.out.2.2.1
  have O3 := HOwn.onlyI m3 (H0.out.2.2.2.2.1.belowI (Below.refl _ _).drew) H0.out.2.2.2.2.2.1
  obtain ⟨t0, t1, t2, t3, t4, t5, t6, t7, et⟩ := listR8 (xs.drop q) HE.out.2.2.2.2.2.2.2.1
  obtain ⟨r0, r1, r2, r3, r4, r5, r6, r7, er⟩ := listR8 (retV o (xs.take q)) (retV_length _ _)
  rw [et] at h3
  have h3' : w3.heap[w1.heap.size + 1]? = some (.cells #[.int .u8 t0, .int .u8 t1, .int .u8 t2, .int .u8 t3, .int .u8 t4, .int .u8 t5, .int .u8 t6, .int .u8 t7] 54 (0, 0)) := h3
  have CT := iretTag ap (some ⟨b, off, none⟩) m q cp cap o (xs.take q) w3.drew (HE.out.2.2.1.below B3.drew) (HE.out.2.2.2.1.below B3.drew) HE.out.2.2.2.2.2.2.2.2.1 HE.out.2.2.2.2.2.2.1 HE.out.2.2.2.2.2.2.2.2.2.2.1 (by have := HE.out.2.2.2.2.2.2.2.2.2.2.2.1; omega) HE.out.2.2.2.2.2.2.2.2.2.1 HE.out.2.2.2.2.2.1
  rw [er] at CT
  have CT' : Calls Tryd.prog 34 #[.slice ap m cp, .slice (some ⟨b, off, none⟩) q cap] w3.drew fun e w' => e = .returned (.agg #[.int .u8 r0, .int .u8 r1, .int .u8 r2, .int .u8 r3, .int .u8 r4, .int .u8 r5, .int .u8 r6, .int .u8 r7]) ∧ Below w3.drew.heap.size w3.drew w' := CT
  have nb := neq8_run r0 r1 r2 r3 r4 r5 r6 r7 t0 t1 t2 t3 t4 t5 t6 t7
  have hcmp : decide ([r0, r1, r2, r3, r4, r5, r6, r7] = [t0, t1, t2, t3, t4, t5, t6, t7]) = false := by rw [← et, ← er]; exact decide_eq_false HE.out.2.2.2.2.2.2.2.2.2.2.2.2
  rw [hcmp] at nb
  have gd := fun (w : World) => grd8_run (.tmp 46) (.tmp 47) #[.int .u8 r0, .int .u8 r1, .int .u8 r2, .int .u8 r3, .int .u8 r4, .int .u8 r5, .int .u8 r6, .int .u8 r7] #[.int .u8 t0, .int .u8 t1, .int .u8 t2, .int .u8 t3, .int .u8 t4, .int .u8 t5, .int .u8 t6, .int .u8 t7] w
  have H3 : Hid _ := And.intro h3' (And.intro P3 (And.intro Z3 (And.intro B3 (And.intro O3 CT'))))
  have g83 : w1.heap.size + 1 < w3.heap.size := (Array.getElem?_eq_some_iff.1 h3').1
  have s0 : w3.drew.cell? ⟨(w1.heap.size + 1), 0, none⟩ = some (.int .u8 t0) := bk_cell h3' 0
  have s1 : w3.drew.cell? ⟨(w1.heap.size + 1), 1, none⟩ = some (.int .u8 t1) := bk_cell h3' 1
  have s2 : w3.drew.cell? ⟨(w1.heap.size + 1), 2, none⟩ = some (.int .u8 t2) := bk_cell h3' 2
  have s3 : w3.drew.cell? ⟨(w1.heap.size + 1), 3, none⟩ = some (.int .u8 t3) := bk_cell h3' 3
  have s4 : w3.drew.cell? ⟨(w1.heap.size + 1), 4, none⟩ = some (.int .u8 t4) := bk_cell h3' 4
  have s5 : w3.drew.cell? ⟨(w1.heap.size + 1), 5, none⟩ = some (.int .u8 t5) := bk_cell h3' 5
  have s6 : w3.drew.cell? ⟨(w1.heap.size + 1), 6, none⟩ = some (.int .u8 t6) := bk_cell h3' 6
  have s7 : w3.drew.cell? ⟨(w1.heap.size + 1), 7, none⟩ = some (.int .u8 t7) := bk_cell h3' 7

  clear e3 h3 m3 B3 P3 Z3 O3 CT CT' h3' RD G8 hcmp et er
  go_wp2_with fail
  go_region_with (first | (go_at_call 34; refine H3.out.2.2.2.2.2.mono ?_; rintro e w4 ⟨rfl, b4⟩; have b34 : Below w3.heap.size w3 w4 := ((Below.refl _ _).drew).trans b4; have k84 := (b34.block (w1.heap.size + 1) g83).trans H3.out.1; have kP4 := (b34.block w1.heap.size (by omega)).trans H3.out.2.1; have k04 := (b34.block w.heap.size (Array.getElem?_eq_some_iff.1 H3.out.2.2.1).1).trans H3.out.2.2.1; have H4 : Hid _ := And.intro k04 (And.intro (H3.out.2.2.2.1.trans (b34.mono H3.out.2.2.2.1.size)) (H3.out.2.2.2.2.1.belowI b34)); have n0 : w4.cell? ⟨(w1.heap.size + 1), 0, none⟩ = some (.int .u8 t0) := bk_cell k84 0; have n1 : w4.cell? ⟨(w1.heap.size + 1), 1, none⟩ = some (.int .u8 t1) := bk_cell k84 1; have n2 : w4.cell? ⟨(w1.heap.size + 1), 2, none⟩ = some (.int .u8 t2) := bk_cell k84 2; have n3 : w4.cell? ⟨(w1.heap.size + 1), 3, none⟩ = some (.int .u8 t3) := bk_cell k84 3; have n4 : w4.cell? ⟨(w1.heap.size + 1), 4, none⟩ = some (.int .u8 t4) := bk_cell k84 4; have n5 : w4.cell? ⟨(w1.heap.size + 1), 5, none⟩ = some (.int .u8 t5) := bk_cell k84 5; have n6 : w4.cell? ⟨(w1.heap.size + 1), 6, none⟩ = some (.int .u8 t6) := bk_cell k84 6; have n7 : w4.cell? ⟨(w1.heap.size + 1), 7, none⟩ = some (.int .u8 t7) := bk_cell k84 7; have p0 : w4.cell? ⟨w1.heap.size, 0, none⟩ = some (.int .i64 K.f) := bk_cell kP4 0; have p1 : w4.cell? ⟨w1.heap.size, 1, none⟩ = some (.int .i64 K.v) := bk_cell kP4 1; have p2 : w4.cell? ⟨w1.heap.size, 2, none⟩ = some (.slice da K.d.length dp) := bk_cell kP4 2; have p3 : w4.cell? ⟨w1.heap.size, 3, none⟩ = some (.slice sa K.s.length sp) := bk_cell kP4 3; have p4 : w4.cell? ⟨w1.heap.size, 4, none⟩ = some (.slice ta K.t.length tp) := bk_cell kP4 4; have p5 : w4.cell? ⟨w1.heap.size, 5, none⟩ = some (.int .i64 0) := bk_cell kP4 5; have p6 : w4.cell? ⟨w1.heap.size, 6, none⟩ = some (.int .i64 0) := bk_cell kP4 6; have p7 : w4.cell? ⟨w1.heap.size, 7, none⟩ = some (.int .i64 0) := bk_cell kP4 7; have p8 : w4.cell? ⟨w1.heap.size, 8, none⟩ = some (.slice va K.vers.length vp) := bk_cell kP4 8; have p9 : w4.cell? ⟨w1.heap.size, 9, none⟩ = some (.int .i64 K.na) := bk_cell kP4 9; have p10 : w4.cell? ⟨w1.heap.size, 10, none⟩ = some (.int .i64 K.fin) := bk_cell kP4 10; obtain ⟨zc0, zc1, zc2, zc3, zc4, zc5, zc6, zc7⟩ := hdB_cells k04; obtain ⟨zf0, zf1, zf2, zf3, zf4, zf5, zf6, zf7⟩ := hdB_free k04; clear k84 kP4 k04 b34 b4))
  all_goals
    go_wp2_with fail
    refine bodyPost_ret (v := .tuple #[.agg #[.int .i64 0, .int .i64 0, .slice none 0 0, .slice none 0 0, .slice none 0 0, .int .i64 0, .int .i64 0, .int .i64 0], .int .i64 13]) ?_ rfl ?_
    · exact results_row_tmp (t := 24) rfl _ _ w.heap.size _ (fr := (0, 0)) _ _ rfl rfl (st8_heap (a0 := .int .i64 0) (a1 := .int .i64 0) (a2 := .slice none 0 0) (a3 := .slice none 0 0) (a4 := .slice none 0 0) (a5 := .int .i64 0) (a6 := .int .i64 0) (a7 := .int .i64 0) H4.out.1) Tryd.underlying24 rfl infoHd
    · exact ⟨rfl, st8_below (a0 := .int .i64 0) (a1 := .int .i64 0) (a2 := .slice none 0 0) (a3 := .slice none 0 0) (a4 := .slice none 0 0) (a5 := .int .i64 0) (a6 := .int .i64 0) (a7 := .int .i64 0) H4.out.2.1 (Nat.le_refl _)⟩
end Go.Proofs.YtbbiinbjgognjaaDoor

namespace Go.Proofs.YtbbiinbjgognjaaDoor
open Go.RowKit
set_option linter.unusedVariables false

theorem retryOK_huge0 (ao0 : Option Addr) (n0 cp0 : Nat) (ao1 : Option Addr) (n1 cp1 : Nat) (w : World) (h0 : 1048576 < n0) (m0 : n0 ≤ 9223372036854775807) :
    Calls Tryd.prog 5 #[.slice ao0 n0 cp0, .slice ao1 n1 cp1] w fun e w' => e = .returned (.bool true) ∧ Below w.heap.size w w' := by
  go_enter Tryd.func5, Tryd.ntmps5
  go_wp2
  go_ret
  exact ⟨rfl, Below.refl _ _⟩
theorem retryOK_huge1 (ao0 : Option Addr) (n0 cp0 : Nat) (ao1 : Option Addr) (n1 cp1 : Nat) (w : World) (h0 : n0 ≤ 1048576) (h1 : 1048576 < n1) (m1 : n1 ≤ 9223372036854775807) :
    Calls Tryd.prog 5 #[.slice ao0 n0 cp0, .slice ao1 n1 cp1] w fun e w' => e = .returned (.bool true) ∧ Below w.heap.size w w' := by
  go_enter Tryd.func5, Tryd.ntmps5
  go_wp2
  go_ret
  exact ⟨rfl, Below.refl _ _⟩
set_option maxRecDepth 20000 in
set_option maxHeartbeats 8000000 in
theorem retryOKLaw (v0 : Value) (x0 : List Int) (v1 : Value) (x1 : List Int) (z : H8) (c1 : Int) (w : World) (Inv : World → Prop) (hInv : ∀ w' : World, Below w.heap.size w w' → Inv w') (row0 : Row w .u8 v0 x0) (l0 : x0.length ≤ 1048576) (row1 : Row w .u8 v1 x1) (l1 : x1.length ≤ 1048576) (lr : z.small 1048576)
    (hS : ∀ (w : World) (u0 : Value) (u1 : Value), Row w .u8 u0 x0 → Row w .u8 u1 x1 → Calls Tryd.prog 20 #[u0, u1] w fun e w' => ∃ r, e = .returned (.tuple #[r, .int .i64 c1]) ∧ HOwns w' w.heap.size r z ∧ Below w.heap.size w w')
    (hI : ∀ (w : World) (u0 : Value) (u1 : Value), Inv w → Row w .u8 u0 x0 → Row w .u8 u1 x1 → Calls Tryd.prog 21 #[u0, u1] w fun e w' => ∃ r, e = .returned (.tuple #[r, .int .i64 c1]) ∧ HOwns w' w.heap.size r z ∧ Below w.heap.size w w') :
    Calls Tryd.prog 5 #[v0, v1] w fun e w' => e = .returned (.bool true) ∧ Below w.heap.size w w' := by
  obtain ⟨ao0, cp0, ev0⟩ := row0.form
  subst ev0
  obtain ⟨n0, en0⟩ : ∃ n, n = x0.length := ⟨_, rfl⟩
  have TB0 : Hid (∀ w : World, Row w .u8 (.slice ao0 n0 cp0) x0 → Calls Tryd.prog 8 #[.slice ao0 n0 cp0] w fun e w' => ∃ r, e = .returned r ∧ w'.ownsRow w.heap.size 5 1 r x0.length (x0.map (Value.int .u8)) ∧ Below w.heap.size w w') := fun w h => toBytes _ x0 w h (by omega)
  rw [← en0] at row0 l0 ⊢
  have EN0 : Hid _ := And.intro en0 row0
  obtain ⟨ao1, cp1, ev1⟩ := row1.form
  subst ev1
  obtain ⟨n1, en1⟩ : ∃ n, n = x1.length := ⟨_, rfl⟩
  have TB1 : Hid (∀ w : World, Row w .u8 (.slice ao1 n1 cp1) x1 → Calls Tryd.prog 8 #[.slice ao1 n1 cp1] w fun e w' => ∃ r, e = .returned r ∧ w'.ownsRow w.heap.size 5 1 r x1.length (x1.map (Value.int .u8)) ∧ Below w.heap.size w w') := fun w h => toBytes _ x1 w h (by omega)
  rw [← en1] at row1 l1 ⊢
  have EN1 : Hid _ := And.intro en1 row1
  have hc1 : (c1 != c1) = false := by simp
  have LR : Hid _ := And.intro lr True.intro
  obtain ⟨rp0, rp1, rp2⟩ := id lr
  have HS : Hid _ := And.intro hS True.intro
  have HI : Hid _ := And.intro hI True.intro
  have HV : Hid _ := And.intro hInv True.intro
  have C_0 : Hid _ := And.intro (Below.refl w.heap.size w) True.intro
  clear hS hI hInv row0 en0 row1 en1 lr
  go_enter Tryd.func5, Tryd.ntmps5
  go_wp2_with fail
  go_at_call 8
  refine (TB0.out _ (EN0.out.2.below C_0.out.1)).mono ?_
  rintro e w1 ⟨T0, rfl, oT0, bT0⟩
  have z_1 : w.heap.size ≤ w1.heap.size := bT0.size
  have C_1 : Hid _ := And.intro (C_0.out.1.trans (bT0.mono C_0.out.1.size)) True.intro
  have T0_1 : Hid _ := And.intro oT0 (fun g (hg : Value.ownBlock _ = some g) => oT0.lt g hg)
  clear oT0 bT0
  go_wp2_with fail
  go_at_call 8
  refine (TB1.out _ (EN1.out.2.below C_1.out.1)).mono ?_
  rintro e w2 ⟨T1, rfl, oT1, bT1⟩
  have z_2 : w1.heap.size ≤ w2.heap.size := bT1.size
  have T0_2 : Hid _ := And.intro (owns_below T0_1.out.1 bT1) T0_1.out.2
  have C_2 : Hid _ := And.intro (C_1.out.1.trans (bT1.mono C_1.out.1.size)) True.intro
  have T1_2 : Hid _ := And.intro oT1 (fun g (hg : Value.ownBlock _ = some g) => oT1.lt g hg)
  clear oT1 bT1
  go_wp2_with fail
  go_at_call 20
  refine (HS.out.1 _ _ _ (row_of_owns T0_2.out.1) (row_of_owns T1_2.out.1)).mono ?_
  rintro e w3 ⟨S, rfl, oS, bS⟩
  have z_3 : w2.heap.size ≤ w3.heap.size := bS.size
  have T0_3 : Hid _ := And.intro (owns_below T0_2.out.1 bS) T0_2.out.2
  have T1_3 : Hid _ := And.intro (owns_below T1_2.out.1 bS) T1_2.out.2
  have C_3 : Hid _ := And.intro (C_2.out.1.trans (bS.mono C_2.out.1.size)) True.intro
  have S_3 : Hid _ := And.intro oS (fun g (hg : HBlk _ g) => HOwns.blk oS g hg)
  clear oS bS
  obtain ⟨Sa0, Sa1, Sa2, Sp0, Sp1, Sp2, eS⟩ := HOwns.parts S_3.out.1
  subst eS
  have alS : Below w3.heap.size w3 (w3.alloc (.cells #[.int .i64 z.f, .int .i64 z.v, .slice Sa0 z.d.length Sp0, .slice Sa1 z.s.length Sp1, .slice Sa2 z.t.length Sp2, .int .i64 z.n, .int .i64 z.l, .int .i64 z.p] 24)) := (Below.refl _ _).alloc (Nat.le_refl _) _
  have B_3 : Hid _ := And.intro (Book.nil w3) True.intro
  have z_4 : w3.heap.size ≤ (w3.alloc (.cells #[.int .i64 z.f, .int .i64 z.v, .slice Sa0 z.d.length Sp0, .slice Sa1 z.s.length Sp1, .slice Sa2 z.t.length Sp2, .int .i64 z.n, .int .i64 z.l, .int .i64 z.p] 24)).heap.size := alS.size
  have S_4 : Hid _ := And.intro (HOwns.below S_3.out.1 alS) S_3.out.2
  have C_4 : Hid _ := And.intro (C_3.out.1.trans (alS.mono C_3.out.1.size)) True.intro
  have B_4 : Hid _ := And.intro (B_3.out.1.add (.cells #[.int .i64 z.f, .int .i64 z.v, .slice Sa0 z.d.length Sp0, .slice Sa1 z.s.length Sp1, .slice Sa2 z.t.length Sp2, .int .i64 z.n, .int .i64 z.l, .int .i64 z.p] 24)) True.intro
  have y_4 : (w3.alloc (.cells #[.int .i64 z.f, .int .i64 z.v, .slice Sa0 z.d.length Sp0, .slice Sa1 z.s.length Sp1, .slice Sa2 z.t.length Sp2, .int .i64 z.n, .int .i64 z.l, .int .i64 z.p] 24)).heap.size = w3.heap.size + 1 := by simp
  clear alS
  go_wp2_with fail
  go_at_call 8
  refine (TB0.out _ (EN0.out.2.below C_4.out.1)).mono ?_
  rintro e w4 ⟨X0, rfl, oX0, bX0⟩
  have z_5 : (w3.alloc (.cells #[.int .i64 z.f, .int .i64 z.v, .slice Sa0 z.d.length Sp0, .slice Sa1 z.s.length Sp1, .slice Sa2 z.t.length Sp2, .int .i64 z.n, .int .i64 z.l, .int .i64 z.p] 24)).heap.size ≤ w4.heap.size := bX0.size
  have S_5 : Hid _ := And.intro (HOwns.below S_4.out.1 bX0) S_4.out.2
  have C_5 : Hid _ := And.intro (C_4.out.1.trans (bX0.mono C_4.out.1.size)) True.intro
  have B_5 : Hid _ := And.intro (B_4.out.1.below bX0) True.intro
  have X0_5 : Hid _ := And.intro oX0 (fun g (hg : Value.ownBlock _ = some g) => oX0.lt g hg)
  clear oX0 bX0
  go_wp2_with fail
  go_at_call 8
  refine (TB1.out _ (EN1.out.2.below C_5.out.1)).mono ?_
  rintro e w5 ⟨X1, rfl, oX1, bX1⟩
  have z_6 : w4.heap.size ≤ w5.heap.size := bX1.size
  have S_6 : Hid _ := And.intro (HOwns.below S_5.out.1 bX1) S_5.out.2
  have X0_6 : Hid _ := And.intro (owns_below X0_5.out.1 bX1) X0_5.out.2
  have C_6 : Hid _ := And.intro (C_5.out.1.trans (bX1.mono C_5.out.1.size)) True.intro
  have B_6 : Hid _ := And.intro (B_5.out.1.below bX1) True.intro
  have X1_6 : Hid _ := And.intro oX1 (fun g (hg : Value.ownBlock _ = some g) => oX1.lt g hg)
  clear oX1 bX1
  go_wp2_with fail
  go_at_call 21
  refine (HI.out.1 _ _ _ (HV.out.1 _ C_6.out.1) (row_of_owns X0_6.out.1) (row_of_owns X1_6.out.1)).mono ?_
  rintro e w6 ⟨G, rfl, oG, bG⟩
  have z_7 : w5.heap.size ≤ w6.heap.size := bG.size
  have S_7 : Hid _ := And.intro (HOwns.below S_6.out.1 bG) S_6.out.2
  have X0_7 : Hid _ := And.intro (owns_below X0_6.out.1 bG) X0_6.out.2
  have X1_7 : Hid _ := And.intro (owns_below X1_6.out.1 bG) X1_6.out.2
  have C_7 : Hid _ := And.intro (C_6.out.1.trans (bG.mono C_6.out.1.size)) True.intro
  have B_7 : Hid _ := And.intro (B_6.out.1.below bG) True.intro
  have G_7 : Hid _ := And.intro oG (fun g (hg : HBlk _ g) => HOwns.blk oG g hg)
  clear oG bG
  obtain ⟨Ga0, Ga1, Ga2, Gp0, Gp1, Gp2, eG⟩ := HOwns.parts G_7.out.1
  subst eG
  have alG : Below w6.heap.size w6 (w6.alloc (.cells #[.int .i64 z.f, .int .i64 z.v, .slice Ga0 z.d.length Gp0, .slice Ga1 z.s.length Gp1, .slice Ga2 z.t.length Gp2, .int .i64 z.n, .int .i64 z.l, .int .i64 z.p] 24)) := (Below.refl _ _).alloc (Nat.le_refl _) _
  have z_8 : w6.heap.size ≤ (w6.alloc (.cells #[.int .i64 z.f, .int .i64 z.v, .slice Ga0 z.d.length Gp0, .slice Ga1 z.s.length Gp1, .slice Ga2 z.t.length Gp2, .int .i64 z.n, .int .i64 z.l, .int .i64 z.p] 24)).heap.size := alG.size
  have S_8 : Hid _ := And.intro (HOwns.below S_7.out.1 alG) S_7.out.2
  have X0_8 : Hid _ := And.intro (owns_below X0_7.out.1 alG) X0_7.out.2
  have X1_8 : Hid _ := And.intro (owns_below X1_7.out.1 alG) X1_7.out.2
  have G_8 : Hid _ := And.intro (HOwns.below G_7.out.1 alG) G_7.out.2
  have C_8 : Hid _ := And.intro (C_7.out.1.trans (alG.mono C_7.out.1.size)) True.intro
  have B_8 : Hid _ := And.intro (B_7.out.1.add (.cells #[.int .i64 z.f, .int .i64 z.v, .slice Ga0 z.d.length Gp0, .slice Ga1 z.s.length Gp1, .slice Ga2 z.t.length Gp2, .int .i64 z.n, .int .i64 z.l, .int .i64 z.p] 24)) True.intro
  have y_8 : (w6.alloc (.cells #[.int .i64 z.f, .int .i64 z.v, .slice Ga0 z.d.length Gp0, .slice Ga1 z.s.length Gp1, .slice Ga2 z.t.length Gp2, .int .i64 z.n, .int .i64 z.l, .int .i64 z.p] 24)).heap.size = w6.heap.size + 1 := by simp
  clear alG
  obtain ⟨ld00, ld01, ld02, ld03, ld04, ld05, ld06, ld07⟩ := B_8.out.1.c8 (b := w6.heap.size) (x0 := .int .i64 z.f) (x1 := .int .i64 z.v) (x2 := .slice Ga0 z.d.length Gp0) (x3 := .slice Ga1 z.s.length Gp1) (x4 := .slice Ga2 z.t.length Gp2) (x5 := .int .i64 z.n) (x6 := .int .i64 z.l) (x7 := .int .i64 z.p) (t := 24) (by simp)
  obtain ⟨ld10, ld11, ld12, ld13, ld14, ld15, ld16, ld17⟩ := B_8.out.1.c8 (b := w3.heap.size) (x0 := .int .i64 z.f) (x1 := .int .i64 z.v) (x2 := .slice Sa0 z.d.length Sp0) (x3 := .slice Sa1 z.s.length Sp1) (x4 := .slice Sa2 z.t.length Sp2) (x5 := .int .i64 z.n) (x6 := .int .i64 z.l) (x7 := .int .i64 z.p) (t := 24) (by simp)
  go_wp2_with fail
  go_at_call 10
  refine (eqHead_same _ _ z _ (HOwns.row G_8.out.1) (HOwns.row S_8.out.1) (h8small_mono LR.out.1 (by decide))).mono ?_
  rintro e w7 ⟨rfl, bw7⟩
  have z_9 : (w6.alloc (.cells #[.int .i64 z.f, .int .i64 z.v, .slice Ga0 z.d.length Gp0, .slice Ga1 z.s.length Gp1, .slice Ga2 z.t.length Gp2, .int .i64 z.n, .int .i64 z.l, .int .i64 z.p] 24)).heap.size ≤ w7.heap.size := bw7.size
  have S_9 : Hid _ := And.intro (HOwns.below S_8.out.1 bw7) S_8.out.2
  have X0_9 : Hid _ := And.intro (owns_below X0_8.out.1 bw7) X0_8.out.2
  have X1_9 : Hid _ := And.intro (owns_below X1_8.out.1 bw7) X1_8.out.2
  have G_9 : Hid _ := And.intro (HOwns.below G_8.out.1 bw7) G_8.out.2
  have C_9 : Hid _ := And.intro (C_8.out.1.trans (bw7.mono C_8.out.1.size)) True.intro
  have B_9 : Hid _ := And.intro (B_8.out.1.below bw7) True.intro
  clear bw7
  clear ld00 ld01 ld02 ld03 ld04 ld05 ld06 ld07 ld10 ld11 ld12 ld13 ld14 ld15 ld16 ld17
  go_wp2_with fail
  go_at_call 8
  refine (TB0.out _ (EN0.out.2.below C_9.out.1)).mono ?_
  rintro e w8 ⟨Y0, rfl, oY0, bY0⟩
  have z_10 : w7.heap.size ≤ w8.heap.size := bY0.size
  have S_10 : Hid _ := And.intro (HOwns.below S_9.out.1 bY0) S_9.out.2
  have X0_10 : Hid _ := And.intro (owns_below X0_9.out.1 bY0) X0_9.out.2
  have X1_10 : Hid _ := And.intro (owns_below X1_9.out.1 bY0) X1_9.out.2
  have G_10 : Hid _ := And.intro (HOwns.below G_9.out.1 bY0) G_9.out.2
  have C_10 : Hid _ := And.intro (C_9.out.1.trans (bY0.mono C_9.out.1.size)) True.intro
  have B_10 : Hid _ := And.intro (B_9.out.1.below bY0) True.intro
  have Y0_10 : Hid _ := And.intro oY0 (fun g (hg : Value.ownBlock _ = some g) => oY0.lt g hg)
  clear oY0 bY0
  go_wp2_with fail
  go_at_call 11
  refine (eqBytes_same _ _ x0 _ (row_of_owns X0_10.out.1) (row_of_owns Y0_10.out.1) (by rw [← EN0.out.1]; omega)).mono ?_
  rintro e w9 ⟨rfl, mw9, hw⟩
  have dw9 : Below w8.heap.size w8 w9 := by rw [hw]; exact below_drewN (Below.refl _ _) mw9
  clear hw
  have z_11 : w8.heap.size ≤ w9.heap.size := dw9.size
  have S_11 : Hid _ := And.intro (HOwns.below S_10.out.1 dw9) S_10.out.2
  have X0_11 : Hid _ := And.intro (owns_below X0_10.out.1 dw9) X0_10.out.2
  have X1_11 : Hid _ := And.intro (owns_below X1_10.out.1 dw9) X1_10.out.2
  have G_11 : Hid _ := And.intro (HOwns.below G_10.out.1 dw9) G_10.out.2
  have Y0_11 : Hid _ := And.intro (owns_below Y0_10.out.1 dw9) Y0_10.out.2
  have C_11 : Hid _ := And.intro (C_10.out.1.trans (dw9.mono C_10.out.1.size)) True.intro
  have B_11 : Hid _ := And.intro (B_10.out.1.below dw9) True.intro
  clear dw9
  go_wp2_with fail
  go_at_call 8
  refine (TB1.out _ (EN1.out.2.below C_11.out.1)).mono ?_
  rintro e w10 ⟨Y1, rfl, oY1, bY1⟩
  have z_12 : w9.heap.size ≤ w10.heap.size := bY1.size
  have S_12 : Hid _ := And.intro (HOwns.below S_11.out.1 bY1) S_11.out.2
  have X0_12 : Hid _ := And.intro (owns_below X0_11.out.1 bY1) X0_11.out.2
  have X1_12 : Hid _ := And.intro (owns_below X1_11.out.1 bY1) X1_11.out.2
  have G_12 : Hid _ := And.intro (HOwns.below G_11.out.1 bY1) G_11.out.2
  have C_12 : Hid _ := And.intro (C_11.out.1.trans (bY1.mono C_11.out.1.size)) True.intro
  have B_12 : Hid _ := And.intro (B_11.out.1.below bY1) True.intro
  have Y1_12 : Hid _ := And.intro oY1 (fun g (hg : Value.ownBlock _ = some g) => oY1.lt g hg)
  clear oY1 bY1
  go_wp2_with fail
  go_at_call 11
  refine (eqBytes_same _ _ x1 _ (row_of_owns X1_12.out.1) (row_of_owns Y1_12.out.1) (by rw [← EN1.out.1]; omega)).mono ?_
  rintro e w11 ⟨rfl, mw11, hw⟩
  have dw11 : Below w10.heap.size w10 w11 := by rw [hw]; exact below_drewN (Below.refl _ _) mw11
  clear hw
  have z_13 : w10.heap.size ≤ w11.heap.size := dw11.size
  have S_13 : Hid _ := And.intro (HOwns.below S_12.out.1 dw11) S_12.out.2
  have X0_13 : Hid _ := And.intro (owns_below X0_12.out.1 dw11) X0_12.out.2
  have X1_13 : Hid _ := And.intro (owns_below X1_12.out.1 dw11) X1_12.out.2
  have G_13 : Hid _ := And.intro (HOwns.below G_12.out.1 dw11) G_12.out.2
  have Y1_13 : Hid _ := And.intro (owns_below Y1_12.out.1 dw11) Y1_12.out.2
  have C_13 : Hid _ := And.intro (C_12.out.1.trans (dw11.mono C_12.out.1.size)) True.intro
  have B_13 : Hid _ := And.intro (B_12.out.1.below dw11) True.intro
  clear dw11
  go_wp2_with fail
  go_at_call 12
  refine (markBytes 1 n0 _ _ x0 _ (by omega) (by omega) (by omega) (by have h := X0_13.out.1; rw [← EN0.out.1] at h; exact h)).mono ?_
  rintro e w12 ⟨rfl, om, bm, zm, om'⟩
  have ch : Chg (fun g => Value.ownBlock _ = some g) _ _ := Chg.of_only om' (fun g e => e)
  have z_14 : w11.heap.size ≤ w12.heap.size := ch.size
  have S_14 : Hid _ := And.intro (ch.howns2 S_13.out.1 (fun g hg hs => by have p1 := S_13.out.2 g hg; have p2 := X0_13.out.2 g hs; omega)) S_13.out.2
  have X1_14 : Hid _ := And.intro (ch.owns X1_13.out.1 (fun g hg hs => by have p1 := X1_13.out.2 g hg; have p2 := X0_13.out.2 g hs; omega)) X1_13.out.2
  have G_14 : Hid _ := And.intro (ch.howns2 G_13.out.1 (fun g hg hs => by have p1 := G_13.out.2 g hg; have p2 := X0_13.out.2 g hs; omega)) G_13.out.2
  have C_14 : Hid _ := And.intro (C_13.out.1.trans (ch.below C_13.out.1.size (fun g hg => by have p2 := X0_13.out.2 g hg; omega))) True.intro
  have B_14 : Hid _ := And.intro (B_13.out.1.chg ch (fun b o hm hs => by have p2 := X0_13.out.2 b hs; simp at hm; rcases hm with ⟨hm, _⟩ | ⟨hm, _⟩ <;> omega)) True.intro
  have X0_14 : Hid _ := And.intro om X0_13.out.2
  clear om bm zm om' ch
  go_wp2_with fail
  go_at_call 12
  refine (markBytes (1 + (n0 : Int)) n1 _ _ x1 _ (by omega) (by omega) (by omega) (by have h := X1_14.out.1; rw [← EN1.out.1] at h; exact h)).mono ?_
  rintro e w13 ⟨rfl, om, bm, zm, om'⟩
  have ch : Chg (fun g => Value.ownBlock _ = some g) _ _ := Chg.of_only om' (fun g e => e)
  have z_15 : w12.heap.size ≤ w13.heap.size := ch.size
  have S_15 : Hid _ := And.intro (ch.howns2 S_14.out.1 (fun g hg hs => by have p1 := S_14.out.2 g hg; have p2 := X1_14.out.2 g hs; omega)) S_14.out.2
  have X0_15 : Hid _ := And.intro (ch.owns X0_14.out.1 (fun g hg hs => by have p1 := X0_14.out.2 g hg; have p2 := X1_14.out.2 g hs; omega)) X0_14.out.2
  have G_15 : Hid _ := And.intro (ch.howns2 G_14.out.1 (fun g hg hs => by have p1 := G_14.out.2 g hg; have p2 := X1_14.out.2 g hs; omega)) G_14.out.2
  have C_15 : Hid _ := And.intro (C_14.out.1.trans (ch.below C_14.out.1.size (fun g hg => by have p2 := X1_14.out.2 g hg; omega))) True.intro
  have B_15 : Hid _ := And.intro (B_14.out.1.chg ch (fun b o hm hs => by have p2 := X1_14.out.2 b hs; simp at hm; rcases hm with ⟨hm, _⟩ | ⟨hm, _⟩ <;> omega)) True.intro
  have X1_15 : Hid _ := And.intro om X1_14.out.2
  clear om bm zm om' ch
  obtain ⟨ld00, ld01, ld02, ld03, ld04, ld05, ld06, ld07⟩ := B_15.out.1.c8 (b := w6.heap.size) (x0 := .int .i64 z.f) (x1 := .int .i64 z.v) (x2 := .slice Ga0 z.d.length Gp0) (x3 := .slice Ga1 z.s.length Gp1) (x4 := .slice Ga2 z.t.length Gp2) (x5 := .int .i64 z.n) (x6 := .int .i64 z.l) (x7 := .int .i64 z.p) (t := 24) (by simp)
  obtain ⟨ld10, ld11, ld12, ld13, ld14, ld15, ld16, ld17⟩ := B_15.out.1.c8 (b := w3.heap.size) (x0 := .int .i64 z.f) (x1 := .int .i64 z.v) (x2 := .slice Sa0 z.d.length Sp0) (x3 := .slice Sa1 z.s.length Sp1) (x4 := .slice Sa2 z.t.length Sp2) (x5 := .int .i64 z.n) (x6 := .int .i64 z.l) (x7 := .int .i64 z.p) (t := 24) (by simp)
  go_wp2_with fail
  go_at_call 10
  refine (eqHead_same _ _ z _ (HOwns.row G_15.out.1) (HOwns.row S_15.out.1) (h8small_mono LR.out.1 (by decide))).mono ?_
  rintro e w14 ⟨rfl, bw14⟩
  have z_16 : w13.heap.size ≤ w14.heap.size := bw14.size
  have S_16 : Hid _ := And.intro (HOwns.below S_15.out.1 bw14) S_15.out.2
  have X0_16 : Hid _ := And.intro (owns_below X0_15.out.1 bw14) X0_15.out.2
  have X1_16 : Hid _ := And.intro (owns_below X1_15.out.1 bw14) X1_15.out.2
  have G_16 : Hid _ := And.intro (HOwns.below G_15.out.1 bw14) G_15.out.2
  have C_16 : Hid _ := And.intro (C_15.out.1.trans (bw14.mono C_15.out.1.size)) True.intro
  have B_16 : Hid _ := And.intro (B_15.out.1.below bw14) True.intro
  clear bw14
  clear ld00 ld01 ld02 ld03 ld04 ld05 ld06 ld07 ld10 ld11 ld12 ld13 ld14 ld15 ld16 ld17
  obtain ⟨ld00, ld01, ld02, ld03, ld04, ld05, ld06, ld07⟩ := B_16.out.1.c8 (b := w6.heap.size) (x0 := .int .i64 z.f) (x1 := .int .i64 z.v) (x2 := .slice Ga0 z.d.length Gp0) (x3 := .slice Ga1 z.s.length Gp1) (x4 := .slice Ga2 z.t.length Gp2) (x5 := .int .i64 z.n) (x6 := .int .i64 z.l) (x7 := .int .i64 z.p) (t := 24) (by simp)
  go_wp2_with fail
  go_at_call 13
  refine (markHead 1 _ _ z _ (h8small_mono LR.out.1 (by decide)) (by omega) (by omega) G_16.out.1).mono ?_
  rintro e w15 ⟨rfl, om, ch⟩
  have z_17 : w14.heap.size ≤ w15.heap.size := ch.size
  have S_17 : Hid _ := And.intro (ch.howns2 S_16.out.1 (fun g hg hs => by have p1 := S_16.out.2 g hg; have p2 := G_16.out.2 g hs; omega)) S_16.out.2
  have X0_17 : Hid _ := And.intro (ch.owns X0_16.out.1 (fun g hg hs => by have p1 := X0_16.out.2 g hg; have p2 := G_16.out.2 g hs; omega)) X0_16.out.2
  have X1_17 : Hid _ := And.intro (ch.owns X1_16.out.1 (fun g hg hs => by have p1 := X1_16.out.2 g hg; have p2 := G_16.out.2 g hs; omega)) X1_16.out.2
  have C_17 : Hid _ := And.intro (C_16.out.1.trans (ch.below C_16.out.1.size (fun g hg => by have p2 := G_16.out.2 g hg; omega))) True.intro
  have B_17 : Hid _ := And.intro (B_16.out.1.chg ch (fun b o hm hs => by have p2 := G_16.out.2 b hs; simp at hm; rcases hm with ⟨hm, _⟩ | ⟨hm, _⟩ <;> omega)) True.intro
  have G_17 : Hid _ := And.intro (show HOwns _ _ _ _ from om) G_16.out.2
  clear om ch
  clear ld00 ld01 ld02 ld03 ld04 ld05 ld06 ld07
  obtain ⟨ld00, ld01, ld02, ld03, ld04, ld05, ld06, ld07⟩ := B_17.out.1.c8 (b := w6.heap.size) (x0 := .int .i64 z.f) (x1 := .int .i64 z.v) (x2 := .slice Ga0 z.d.length Gp0) (x3 := .slice Ga1 z.s.length Gp1) (x4 := .slice Ga2 z.t.length Gp2) (x5 := .int .i64 z.n) (x6 := .int .i64 z.l) (x7 := .int .i64 z.p) (t := 24) (by simp)
  go_wp2_with fail
  go_at_call 14
  refine (heldHead 1 _ z _ (h8small_mono LR.out.1 (by decide)) (by decide) (by decide) (HOwns.row G_17.out.1)).mono ?_
  rintro e w16 ⟨rfl, bh⟩
  have z_18 : w15.heap.size ≤ w16.heap.size := bh.size
  have S_18 : Hid _ := And.intro (HOwns.below S_17.out.1 bh) S_17.out.2
  have X0_18 : Hid _ := And.intro (owns_below X0_17.out.1 bh) X0_17.out.2
  have X1_18 : Hid _ := And.intro (owns_below X1_17.out.1 bh) X1_17.out.2
  have G_18 : Hid _ := And.intro (HOwns.below G_17.out.1 bh) G_17.out.2
  have C_18 : Hid _ := And.intro (C_17.out.1.trans (bh.mono C_17.out.1.size)) True.intro
  have B_18 : Hid _ := And.intro (B_17.out.1.below bh) True.intro
  clear bh
  clear ld00 ld01 ld02 ld03 ld04 ld05 ld06 ld07
  go_wp2_with fail
  go_at_call 8
  refine (TB0.out _ (EN0.out.2.below C_18.out.1)).mono ?_
  rintro e w17 ⟨H0, rfl, oH0, bH0⟩
  have z_19 : w16.heap.size ≤ w17.heap.size := bH0.size
  have S_19 : Hid _ := And.intro (HOwns.below S_18.out.1 bH0) S_18.out.2
  have X0_19 : Hid _ := And.intro (owns_below X0_18.out.1 bH0) X0_18.out.2
  have X1_19 : Hid _ := And.intro (owns_below X1_18.out.1 bH0) X1_18.out.2
  have G_19 : Hid _ := And.intro (HOwns.below G_18.out.1 bH0) G_18.out.2
  have C_19 : Hid _ := And.intro (C_18.out.1.trans (bH0.mono C_18.out.1.size)) True.intro
  have B_19 : Hid _ := And.intro (B_18.out.1.below bH0) True.intro
  have H0_19 : Hid _ := And.intro oH0 (fun g (hg : Value.ownBlock _ = some g) => oH0.lt g hg)
  clear oH0 bH0
  go_wp2_with fail
  go_at_call 8
  refine (TB1.out _ (EN1.out.2.below C_19.out.1)).mono ?_
  rintro e w18 ⟨H1, rfl, oH1, bH1⟩
  have z_20 : w17.heap.size ≤ w18.heap.size := bH1.size
  have S_20 : Hid _ := And.intro (HOwns.below S_19.out.1 bH1) S_19.out.2
  have X0_20 : Hid _ := And.intro (owns_below X0_19.out.1 bH1) X0_19.out.2
  have X1_20 : Hid _ := And.intro (owns_below X1_19.out.1 bH1) X1_19.out.2
  have G_20 : Hid _ := And.intro (HOwns.below G_19.out.1 bH1) G_19.out.2
  have H0_20 : Hid _ := And.intro (owns_below H0_19.out.1 bH1) H0_19.out.2
  have C_20 : Hid _ := And.intro (C_19.out.1.trans (bH1.mono C_19.out.1.size)) True.intro
  have B_20 : Hid _ := And.intro (B_19.out.1.below bH1) True.intro
  have H1_20 : Hid _ := And.intro oH1 (fun g (hg : Value.ownBlock _ = some g) => oH1.lt g hg)
  clear oH1 bH1
  go_wp2_with fail
  go_at_call 21
  refine (HI.out.1 _ _ _ (HV.out.1 _ C_20.out.1) (row_of_owns H0_20.out.1) (row_of_owns H1_20.out.1)).mono ?_
  rintro e w19 ⟨H, rfl, oH, bH⟩
  have z_21 : w18.heap.size ≤ w19.heap.size := bH.size
  have S_21 : Hid _ := And.intro (HOwns.below S_20.out.1 bH) S_20.out.2
  have X0_21 : Hid _ := And.intro (owns_below X0_20.out.1 bH) X0_20.out.2
  have X1_21 : Hid _ := And.intro (owns_below X1_20.out.1 bH) X1_20.out.2
  have G_21 : Hid _ := And.intro (HOwns.below G_20.out.1 bH) G_20.out.2
  have H0_21 : Hid _ := And.intro (owns_below H0_20.out.1 bH) H0_20.out.2
  have H1_21 : Hid _ := And.intro (owns_below H1_20.out.1 bH) H1_20.out.2
  have C_21 : Hid _ := And.intro (C_20.out.1.trans (bH.mono C_20.out.1.size)) True.intro
  have B_21 : Hid _ := And.intro (B_20.out.1.below bH) True.intro
  have H_21 : Hid _ := And.intro oH (fun g (hg : HBlk _ g) => HOwns.blk oH g hg)
  clear oH bH
  obtain ⟨Ha0, Ha1, Ha2, Hp0, Hp1, Hp2, eH⟩ := HOwns.parts H_21.out.1
  subst eH
  have alH : Below w19.heap.size w19 (w19.alloc (.cells #[.int .i64 z.f, .int .i64 z.v, .slice Ha0 z.d.length Hp0, .slice Ha1 z.s.length Hp1, .slice Ha2 z.t.length Hp2, .int .i64 z.n, .int .i64 z.l, .int .i64 z.p] 24)) := (Below.refl _ _).alloc (Nat.le_refl _) _
  have z_22 : w19.heap.size ≤ (w19.alloc (.cells #[.int .i64 z.f, .int .i64 z.v, .slice Ha0 z.d.length Hp0, .slice Ha1 z.s.length Hp1, .slice Ha2 z.t.length Hp2, .int .i64 z.n, .int .i64 z.l, .int .i64 z.p] 24)).heap.size := alH.size
  have S_22 : Hid _ := And.intro (HOwns.below S_21.out.1 alH) S_21.out.2
  have X0_22 : Hid _ := And.intro (owns_below X0_21.out.1 alH) X0_21.out.2
  have X1_22 : Hid _ := And.intro (owns_below X1_21.out.1 alH) X1_21.out.2
  have G_22 : Hid _ := And.intro (HOwns.below G_21.out.1 alH) G_21.out.2
  have H_22 : Hid _ := And.intro (HOwns.below H_21.out.1 alH) H_21.out.2
  have C_22 : Hid _ := And.intro (C_21.out.1.trans (alH.mono C_21.out.1.size)) True.intro
  have B_22 : Hid _ := And.intro (B_21.out.1.add (.cells #[.int .i64 z.f, .int .i64 z.v, .slice Ha0 z.d.length Hp0, .slice Ha1 z.s.length Hp1, .slice Ha2 z.t.length Hp2, .int .i64 z.n, .int .i64 z.l, .int .i64 z.p] 24)) True.intro
  have y_22 : (w19.alloc (.cells #[.int .i64 z.f, .int .i64 z.v, .slice Ha0 z.d.length Hp0, .slice Ha1 z.s.length Hp1, .slice Ha2 z.t.length Hp2, .int .i64 z.n, .int .i64 z.l, .int .i64 z.p] 24)).heap.size = w19.heap.size + 1 := by simp
  clear alH
  obtain ⟨ld00, ld01, ld02, ld03, ld04, ld05, ld06, ld07⟩ := B_22.out.1.c8 (b := w19.heap.size) (x0 := .int .i64 z.f) (x1 := .int .i64 z.v) (x2 := .slice Ha0 z.d.length Hp0) (x3 := .slice Ha1 z.s.length Hp1) (x4 := .slice Ha2 z.t.length Hp2) (x5 := .int .i64 z.n) (x6 := .int .i64 z.l) (x7 := .int .i64 z.p) (t := 24) (by simp)
  obtain ⟨ld10, ld11, ld12, ld13, ld14, ld15, ld16, ld17⟩ := B_22.out.1.c8 (b := w3.heap.size) (x0 := .int .i64 z.f) (x1 := .int .i64 z.v) (x2 := .slice Sa0 z.d.length Sp0) (x3 := .slice Sa1 z.s.length Sp1) (x4 := .slice Sa2 z.t.length Sp2) (x5 := .int .i64 z.n) (x6 := .int .i64 z.l) (x7 := .int .i64 z.p) (t := 24) (by simp)
  go_wp2_with fail
  go_at_call 10
  refine (eqHead_same _ _ z _ (HOwns.row H_22.out.1) (HOwns.row S_22.out.1) (h8small_mono LR.out.1 (by decide))).mono ?_
  rintro e w20 ⟨rfl, bw20⟩
  have z_23 : (w19.alloc (.cells #[.int .i64 z.f, .int .i64 z.v, .slice Ha0 z.d.length Hp0, .slice Ha1 z.s.length Hp1, .slice Ha2 z.t.length Hp2, .int .i64 z.n, .int .i64 z.l, .int .i64 z.p] 24)).heap.size ≤ w20.heap.size := bw20.size
  have S_23 : Hid _ := And.intro (HOwns.below S_22.out.1 bw20) S_22.out.2
  have X0_23 : Hid _ := And.intro (owns_below X0_22.out.1 bw20) X0_22.out.2
  have X1_23 : Hid _ := And.intro (owns_below X1_22.out.1 bw20) X1_22.out.2
  have G_23 : Hid _ := And.intro (HOwns.below G_22.out.1 bw20) G_22.out.2
  have H_23 : Hid _ := And.intro (HOwns.below H_22.out.1 bw20) H_22.out.2
  have C_23 : Hid _ := And.intro (C_22.out.1.trans (bw20.mono C_22.out.1.size)) True.intro
  have B_23 : Hid _ := And.intro (B_22.out.1.below bw20) True.intro
  clear bw20
  clear ld00 ld01 ld02 ld03 ld04 ld05 ld06 ld07 ld10 ld11 ld12 ld13 ld14 ld15 ld16 ld17
  obtain ⟨ld00, ld01, ld02, ld03, ld04, ld05, ld06, ld07⟩ := B_23.out.1.c8 (b := w6.heap.size) (x0 := .int .i64 z.f) (x1 := .int .i64 z.v) (x2 := .slice Ga0 z.d.length Gp0) (x3 := .slice Ga1 z.s.length Gp1) (x4 := .slice Ga2 z.t.length Gp2) (x5 := .int .i64 z.n) (x6 := .int .i64 z.l) (x7 := .int .i64 z.p) (t := 24) (by simp)
  go_wp2_with fail
  go_at_call 14
  refine (heldHead 1 _ z _ (h8small_mono LR.out.1 (by decide)) (by decide) (by decide) (HOwns.row G_23.out.1)).mono ?_
  rintro e w21 ⟨rfl, bh⟩
  have z_24 : w20.heap.size ≤ w21.heap.size := bh.size
  have S_24 : Hid _ := And.intro (HOwns.below S_23.out.1 bh) S_23.out.2
  have X0_24 : Hid _ := And.intro (owns_below X0_23.out.1 bh) X0_23.out.2
  have X1_24 : Hid _ := And.intro (owns_below X1_23.out.1 bh) X1_23.out.2
  have G_24 : Hid _ := And.intro (HOwns.below G_23.out.1 bh) G_23.out.2
  have H_24 : Hid _ := And.intro (HOwns.below H_23.out.1 bh) H_23.out.2
  have C_24 : Hid _ := And.intro (C_23.out.1.trans (bh.mono C_23.out.1.size)) True.intro
  have B_24 : Hid _ := And.intro (B_23.out.1.below bh) True.intro
  clear bh
  clear ld00 ld01 ld02 ld03 ld04 ld05 ld06 ld07
  go_wp2
  go_ret
  exact ⟨rfl, C_24.out.1⟩
/-- For arguments of whatever size: over the model's contract and the program's, where the sizes are within the law's. -/
theorem retryOK_walkOf (v0 : Value) (x0 : List Int) (v1 : Value) (x1 : List Int) (z : H8) (c1 : Int) (w : World) (Inv : World → Prop) (hInv : ∀ w' : World, Below w.heap.size w w' → Inv w') (l0 : x0.length ≤ maxLen) (wf0 : ∀ x ∈ x0, (Lit.int .u8 x).wf = true) (l1 : x1.length ≤ maxLen) (wf1 : ∀ x ∈ x1, (Lit.int .u8 x).wf = true) (row0 : Row w .u8 v0 x0) (row1 : Row w .u8 v1 x1) (lr : z.small 1048576)
    (hS : ∀ (w : World) (u0 : Value) (u1 : Value), Row w .u8 u0 x0 → Row w .u8 u1 x1 → Calls Tryd.prog 20 #[u0, u1] w fun e w' => ∃ r, e = .returned (.tuple #[r, .int .i64 c1]) ∧ HOwns w' w.heap.size r z ∧ Below w.heap.size w w')
    (hI : ∀ (w : World) (u0 : Value) (u1 : Value), Inv w → Row w .u8 u0 x0 → Row w .u8 u1 x1 → Calls Tryd.prog 21 #[u0, u1] w fun e w' => ∃ r, e = .returned (.tuple #[r, .int .i64 c1]) ∧ HOwns w' w.heap.size r z ∧ Below w.heap.size w w') :
    Calls Tryd.prog 5 #[v0, v1] w fun e w' => e = .returned (.bool true) ∧ Below w.heap.size w w' := by
  have m0 : x0.length ≤ 9223372036854775807 := by have h := l0; unfold maxLen at h; omega
  have m1 : x1.length ≤ 9223372036854775807 := by have h := l1; unfold maxLen at h; omega
  by_cases g0 : 1048576 < x0.length
  · obtain ⟨ao0, cp0, rfl⟩ := row0.form; obtain ⟨ao1, cp1, rfl⟩ := row1.form; exact retryOK_huge0 ao0 _ cp0 ao1 _ cp1 w g0 m0
  · skip
    by_cases g1 : 1048576 < x1.length
    · obtain ⟨ao0, cp0, rfl⟩ := row0.form; obtain ⟨ao1, cp1, rfl⟩ := row1.form; exact retryOK_huge1 ao0 _ cp0 ao1 _ cp1 w (by omega) g1 m1
    · skip
      exact retryOKLaw v0 x0 v1 x1 z c1 w Inv hInv row0 (by omega) row1 (by omega) lr hS hI
end Go.Proofs.YtbbiinbjgognjaaDoor

namespace Go.Proofs.YtbbiinbjgognjaaDoor
open Go.RowKit
set_option linter.unusedVariables false

abbrev zeroH : H8 := ⟨0, 0, [], [], [], 0, 0, 0⟩
theorem zeroH_own (w : World) (base : Nat) : HOwns w base (.agg #[.int .i64 0, .int .i64 0, .slice none 0 0, .slice none 0 0, .slice none 0 0, .int .i64 0, .int .i64 0, .int .i64 0]) zeroH :=
  ⟨_, _, _, rfl, ⟨World.ownsRow_nil _ _ _ _, World.ownsRow_nil _ _ _ _, World.ownsRow_nil _ _ _ _, fun k hk => (by cases hk), fun k hk => (by cases hk), fun k hk => (by cases hk)⟩⟩
theorem zeroH_post {w w' : World} {e : Ending} {c : Int} (h : e = .returned (.tuple #[.agg #[.int .i64 0, .int .i64 0, .slice none 0 0, .slice none 0 0, .slice none 0 0, .int .i64 0, .int .i64 0, .int .i64 0], .int .i64 c]) ∧ Below w.heap.size w w') : ∃ r, e = .returned (.tuple #[r, .int .i64 c]) ∧ HOwns w' w.heap.size r zeroH ∧ Below w.heap.size w w' :=
  ⟨_, h.1, zeroH_own _ _, h.2⟩
theorem own_post {w w' : World} {e : Ending} {c : Int} {f v : Int} {d s t : List Int} (h : ∃ vd vs vt, e = .returned (.tuple #[.agg #[.int .i64 f, .int .i64 v, vd, vs, vt, .int .i64 0, .int .i64 0, .int .i64 0], .int .i64 c]) ∧ HOwn w' w.heap.size vd vs vt ⟨f, v, d, s, t, 0, 0, 0⟩ ∧ Below w.heap.size w w') : ∃ r, e = .returned (.tuple #[r, .int .i64 c]) ∧ HOwns w' w.heap.size r ⟨f, v, d, s, t, 0, 0, 0⟩ ∧ Below w.heap.size w w' := by
  obtain ⟨vd, vs, vt, h1, h2, h3⟩ := h
  exact ⟨_, h1, ⟨_, _, _, rfl, h2⟩, h3⟩
theorem w2_T3 {w : World} (ht : T3 w) (ap : Option Addr) (m cp : Nat) : T3 ((w.alloc hd0).alloc (.cells #[.slice ap m cp] 22)) := ht.below (ro_w2 ap m cp w).1 ht.lt
theorem fnExactRetryOK_walk (v0 : Value) (xs : List Int) (v1 : Value) (o : List Int) (hl0 : xs.length ≤ maxLen) (wf0 : ∀ x ∈ xs, (Lit.int .u8 x).wf = true) (hl1 : o.length ≤ maxLen) (wf1 : ∀ x ∈ o, (Lit.int .u8 x).wf = true) (w : World) (r0 : Row w .u8 v0 xs) (r1 : Row w .u8 v1 o) (ht : T3 w) :
    Calls Tryd.prog 5 #[v0, v1] w fun e w' => e = .returned (.bool true) ∧ Below w.heap.size w w' := by
  have m0 : xs.length ≤ 9223372036854775807 := by unfold maxLen at hl0; omega
  have m1 : o.length ≤ 9223372036854775807 := by unfold maxLen at hl1; omega
  have hB := bytes_of_wf wf0
  have bo := bytes_of_wf wf1
  have fin := fun z c lr hS hI => retryOK_walkOf v0 xs v1 o z c w T3 (fun w' hb => ht.below hb ht.lt) hl0 wf0 hl1 wf1 r0 r1 lr hS hI
  have zs : zeroH.small 1048576 := ⟨by decide, by decide, by decide⟩
  by_cases h65 : 65536 < xs.length
  · refine fin zeroH 4 zs (fun w u0 u1 q0 q1 => ?_) (fun w u0 u1 tw q0 q1 => ?_)
    · obtain ⟨ao, cap, rfl⟩ := q0.form
      obtain ⟨ap, cp, rfl⟩ := q1.form
      exact (roS_long ao ap _ cap _ cp w m0 h65).mono (fun e w' h => zeroH_post h)
    · obtain ⟨ao, cap, rfl⟩ := q0.form
      obtain ⟨ap, cp, rfl⟩ := q1.form
      exact (roI_long ao ap _ cap _ cp w m0 h65).mono (fun e w' h => zeroH_post h)
  have n65 : xs.length ≤ 65536 := by omega
  by_cases h8 : 8 < o.length
  · refine fin zeroH 1 zs (fun w u0 u1 q0 q1 => ?_) (fun w u0 u1 tw q0 q1 => ?_)
    · obtain ⟨ao, cap, rfl⟩ := q0.form
      obtain ⟨ap, cp, rfl⟩ := q1.form
      exact (roS_bad ao ap _ cap _ cp w n65 m1 h8).mono (fun e w' h => zeroH_post h)
    · obtain ⟨ao, cap, rfl⟩ := q0.form
      obtain ⟨ap, cp, rfl⟩ := q1.form
      exact (roI_bad ao ap _ cap _ cp o w n65 q1 rfl m1 h8).mono (fun e w' h => zeroH_post h)
  have n8 : o.length ≤ 8 := by omega
  cases hp : pk xs 0 with
  | error c =>
    refine fin zeroH c zs (fun w u0 u1 q0 q1 => ?_) (fun w u0 u1 tw q0 q1 => ?_)
    · obtain ⟨ao, cap, rfl, hlie⟩ := row_lies q0
      obtain ⟨ap, cp, rfl⟩ := q1.form
      exact (roS_err ao ap _ cap _ cp c xs w n65 n8 hlie rfl hB hp).mono (fun e w' h => zeroH_post h)
    · obtain ⟨ao, cap, rfl, hlie⟩ := row_lies q0
      obtain ⟨ap, cp, rfl⟩ := q1.form
      have t2 := w2_T3 tw ap o.length cp
      have b2 := (ro_w2 ap o.length cp w).1
      exact (roI_err ao ap _ cap _ cp c o w tw.err n65 q1 rfl n8 (peek_bad ao _ cap 0 c xs _ t2.tab t2.tabL (hlie.imp id (fun ⟨b, off, h1, h2⟩ => ⟨b, off, h1, h2.below b2⟩)) rfl hB m0 hp)).mono (fun e w' h => zeroH_post h)
  | ok K =>
    by_cases h3 : K.f = 3
    · obtain ⟨h16, h95⟩ := pk_retry hp h3
      obtain ⟨q, eq⟩ : ∃ q, xs.length = q + 8 := ⟨xs.length - 8, by omega⟩
      have hks := pk_small hp
      have ks : (⟨K.f, K.v, K.d, K.s, K.t, 0, 0, 0⟩ : H8).small 1048576 := ⟨Nat.le_trans hks.1 (by decide), Nat.le_trans hks.2.1 (by decide), Nat.le_trans hks.2.2 (by decide)⟩
      have prep : ∀ (w : World) (u0 : Value), Row w .u8 u0 xs → ∃ b off cap, u0 = .slice (some ⟨b, off, none⟩) (q + 8) cap ∧ Lies w b off (q + 8) cap xs := by
        intro w u0 q0
        obtain ⟨ao, cap, rfl, hlie⟩ := row_lies q0
        rcases hlie with h | ⟨b, off, rfl, hl⟩
        · omega
        · rw [eq] at hl ⊢
          exact ⟨b, off, cap, rfl, hl⟩
      have prepI : ∀ (w : World) (b off cap : Nat) (ap : Option Addr) (cp : Nat), T3 w → Lies w b off (q + 8) cap xs → _ := fun w b off cap ap cp (tw : T3 w) (hl : Lies w b off (q + 8) cap xs) =>
        peek_ok (some ⟨b, off, none⟩) (q + 8) cap 0 K xs _ (w2_T3 tw ap o.length cp).tab (w2_T3 tw ap o.length cp).tabL (Or.inr ⟨b, off, rfl, hl.below (ro_w2 ap o.length cp w).1⟩) eq hB (by omega) hp
      by_cases heq : retV o (xs.take q) = xs.drop q
      · refine fin ⟨K.f, K.v, K.d, K.s, K.t, 0, 0, 0⟩ 0 ks (fun w u0 u1 q0 q1 => ?_) (fun w u0 u1 tw q0 q1 => ?_)
        · obtain ⟨b, off, cap, rfl, hl⟩ := prep w u0 q0
          obtain ⟨ap, cp, rfl⟩ := q1.form
          exact (roT_ok b off q cap ap _ cp K xs o w (by omega) n8 hl hB q1 rfl bo hp h3 heq).mono (fun e w' h => own_post h)
        · obtain ⟨b, off, cap, rfl, hl⟩ := prep w u0 q0
          obtain ⟨ap, cp, rfl⟩ := q1.form
          exact (roU_ok b off q cap ap _ cp K xs o w (by omega) n8 hl hB q1 rfl bo h3 (prepI w b off cap ap cp tw hl) heq).mono (fun e w' h => own_post h)
      · refine fin zeroH 13 zs (fun w u0 u1 q0 q1 => ?_) (fun w u0 u1 tw q0 q1 => ?_)
        · obtain ⟨b, off, cap, rfl, hl⟩ := prep w u0 q0
          obtain ⟨ap, cp, rfl⟩ := q1.form
          exact (roT_bad b off q cap ap _ cp K xs o w (by omega) n8 hl hB q1 rfl bo hp h3 heq).mono (fun e w' h => zeroH_post h)
        · obtain ⟨b, off, cap, rfl, hl⟩ := prep w u0 q0
          obtain ⟨ap, cp, rfl⟩ := q1.form
          exact (roU_bad b off q cap ap _ cp K xs o w (by omega) n8 hl hB q1 rfl bo h3 (prepI w b off cap ap cp tw hl) heq).mono (fun e w' h => zeroH_post h)
    · refine fin zeroH 3 zs (fun w u0 u1 q0 q1 => ?_) (fun w u0 u1 tw q0 q1 => ?_)
      · obtain ⟨ao, cap, rfl, hlie⟩ := row_lies q0
        obtain ⟨ap, cp, rfl⟩ := q1.form
        exact (roS_form ao ap _ cap _ cp K xs w n65 n8 hlie rfl hB hp h3).mono (fun e w' h => zeroH_post h)
      · obtain ⟨ao, cap, rfl, hlie⟩ := row_lies q0
        obtain ⟨ap, cp, rfl⟩ := q1.form
        have t2 := w2_T3 tw ap o.length cp
        have b2 := (ro_w2 ap o.length cp w).1
        exact (roI_form ao ap _ cap _ cp K o w n65 q1 rfl n8 h3 (peek_ok ao _ cap 0 K xs _ t2.tab t2.tabL (hlie.imp id (fun ⟨b, off, h1, h2⟩ => ⟨b, off, h1, h2.below b2⟩)) rfl hB m0 hp)).mono (fun e w' h => zeroH_post h)
end Go.Proofs.YtbbiinbjgognjaaDoor
