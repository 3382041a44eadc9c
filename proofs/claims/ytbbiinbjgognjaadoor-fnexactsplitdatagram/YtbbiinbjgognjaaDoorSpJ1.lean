import Derived.Test.YtbbiinbjgognjaaDoorRows
import Derived.WalkKit
import Derived.ProofKit
import Derived.OpenShut
import Derived.OpenVars
import Derived.Deep.DeepHandedRow
import Derived.Test.YtbbiinbjgognjaaDoorMem
import Derived.Test.YtbbiinbjgognjaaDoorPkE
import Derived.Test.YtbbiinbjgognjaaDoorKeys
import Derived.Test.YtbbiinbjgognjaaDoorToBytes
import Derived.Test.YtbbiinbjgognjaaDoorEqBytes
import Derived.Test.YtbbiinbjgognjaaDoorBlocks
import Derived.Deep.RegionWith
import Derived.Deep.CutRange
import Derived.Test.YtbbiinbjgognjaaDoorMarkBytes
import Derived.Test.YtbbiinbjgognjaaDoorPeekWalk
import Derived.Test.YtbbiinbjgognjaaDoorAppRow
import Derived.Test.YtbbiinbjgognjaaDoorCards
import Derived.Test.YtbbiinbjgognjaaDoorTie
import Derived.Lib.LaidTab
import Derived.LaidHandle
namespace Go.Proofs.YtbbiinbjgognjaaDoor
open Go.ChangeShapes Go.WideShapes Go.ChangeAt Go.RowKit

/-- Each parameter's type can be read, and is a row of the table: one closed fact. -/
def typesRowed (P : Program) (ts : List TypeId) : Bool := ts.all fun t => P.readableRec t && decide (t < P.types.size)

theorem below_trodAll {H : Type} {enc : TypeId × Value → H} {P : Program} (hl : laidOutB P = true) {W W' : World} (hb : Below W.heap.size W W') :
    ∀ {ts : List TypeId} {vs : List Value} {ds : List (DataW H)} {ps : List MemPlace}, typesRowed P ts = true → DataW.TrodAll enc P W 0 (fun _ => true) true ts vs ds ps → (∀ x ∈ ps, x.block < W.heap.size) →
      DataW.TrodAll enc P W' 0 (fun b => decide (b < W.heap.size)) true ts vs ds ps
  | [], [], [], _, _, h, _ => h
  | [], _ :: _, _, _, _, h, _ => h.elim
  | [], [], _ :: _, _, _, h, _ => h.elim
  | _ :: _, [], _, _, _, h, _ => h.elim
  | _ :: _, _ :: _, [], _, _, h, _ => h.elim
  | t :: ts, v :: vs, d :: ds, ps, hr, h, hlt => by
    obtain ⟨p, q, h1, h2, rfl⟩ := h
    simp only [typesRowed, List.all_cons, Bool.and_eq_true, decide_eq_true_eq] at hr
    exact ⟨p, q, Below.trod hl hr.1.1 hr.1.2 h1 hb (fun x hx => hlt x (by simp [hx])), below_trodAll hl hb (by simpa [typesRowed] using hr.2) h2 (fun x hx => hlt x (by simp [hx])), rfl⟩

/-- WHAT A LAW's ROW ASKS, out of 'it returned true, and of what was there before nothing has turned'. -/
theorem law_post {H : Type} {enc : TypeId × Value → H} {P : Program} {f : Func} {s : ChangeSpec} {W W' : World} {args : Array Value} {ds gs : List (DataW H)} {before : List MemPlace} {tb : TypeId}
    (hl : laidOutB P = true) (hp : typesRowed P f.params.toList = true) (hv : varsRowed P s.vars = true) (hr : f.resultTypes = #[tb]) (hu : P.underlying tb = some .bool)
    (hW : DataW.Whole enc P f.params.toList s.vars false W args.toList ds gs before)
    (hs : s.fn H (ds ++ gs) = { results := [.lit (.bool true)], args := ds, vars := gs }) (hb : Below W.heap.size W W') :
    s.post enc P f false true false false W args (.bool true) W' := by
  have hW' := hW
  obtain ⟨p, q, hA, hV, rfl, hfz, hnd⟩ := hW
  have hlt : ∀ x ∈ p ++ q, x.block < W.heap.size := fun x hx => hW'.lt x hx
  refine ⟨ds, gs, p ++ q, [], p, q, hW', ?_, ?_, ?_, hb.frame _, fun h => by cases h⟩
  · rw [hs, hr]
    exact trodAll_mk1 (shut_bool hu _)
  · rw [hs]
    exact below_trodAll hl hb hp hA (fun x hx => hlt x (by simp [hx]))
  · rw [hs]
    exact Below.trodVars hl hb hv hV

theorem cell_lt {w : World} {b o : Nat} {u : Value} (h : w.cell? ⟨b, o, none⟩ = some u) : b < w.heap.size := by
  refine Nat.lt_of_not_le (fun hn => ?_)
  have e : w.heap[b]? = none := Array.getElem?_eq_none (by omega)
  simp [World.cell?, e] at h

/-- AN ARGUMENT THAT IS A SLICE OF NUMBERS: it reads as some numbers of its kind. -/
theorem open_row {H : Type} {enc : TypeId × Value → H} {P : Program} {W : World} {r : Reach} {base : Nat} {t e : TypeId} {k : IntKind} {v : Value} {d : DataW H} {p : List MemPlace}
    (ht : P.underlying t = some (.slice e)) (he : P.underlying e = some (.int k)) (hc : P.cellsOf e = 1) (hval : Value.okWide P W r base t v) (h : DataW.Trod enc P W 0 (fun _ => true) true t v d p) :
    ∃ xs : List Int, Row W k v xs ∧ xs.length ≤ maxLen ∧ ∀ x ∈ xs, (Lit.int k x).wf = true := by
  obtain ⟨a0, len, cap, rfl⟩ := okWide_slice ht hval
  obtain ⟨fuel, hf⟩ := h
  rcases open_ints ht he hc hf with ⟨hcs, hx⟩ | ⟨a, len', cap', zs, hcs, _, hl, hm, hz, hx, hcell, hwz⟩
  · have : Value.slice a0 len cap = .slice none 0 0 := by simpa [Value.cells] using hcs
    rw [this]
    exact ⟨[], Or.inl ⟨rfl, none, 0, rfl⟩, by simp, by simp⟩
  · have : Value.slice a0 len cap = .slice (some a) len' cap' := by simpa [Value.cells] using hcs
    rw [this]
    have hzl : zs.length = cap' := by simpa using hz
    have htl : (zs.take len').length = len' := by rw [List.length_take]; omega
    refine ⟨zs.take len', ?_, by rw [htl]; omega, fun x hx => hwz x (List.mem_of_mem_take hx)⟩
    by_cases h0 : len' = 0
    · subst h0
      exact Or.inl ⟨by simp, _, _, rfl⟩
    · obtain ⟨b, off, rfl, hcc⟩ := ints_at hcell (by omega)
      refine Or.inr ⟨b, off, cap', by rw [htl], cell_lt (hcc 0 (by omega)), by rw [htl]; exact ⟨hl, hm⟩, fun j hj => ?_⟩
      rw [htl] at hj
      rw [hcc j (by omega)]
      simp [List.getD, hj]
end Go.Proofs.YtbbiinbjgognjaaDoor

namespace Go.Proofs.YtbbiinbjgognjaaDoor
open Go.RowKit
set_option linter.unusedVariables false

theorem cid_le8 {xs d : List Int} {p q : Nat} (h : pkCid xs p = .ok (d, q)) : d.length ≤ 8 := by
  unfold pkCid at h
  split at h
  · cases h
  · split at h
    · cases h
    · split at h
      · cases h
      · rename_i h1 h2 h3
        cases h
        rw [sub_len xs (p + 1) _ (by omega)]
        omega
theorem ret_len {xs t : List Int} {p : Nat} (h : pkRet xs p = .ok t) : p + 9 ≤ xs.length ∧ xs.length ≤ p + 72 := by
  unfold pkRet at h
  split at h
  · cases h
  · split at h
    · cases h
    · omega
theorem tail_ret {xs d s : List Int} {f v : Int} {p : Nat} {K : PK} (h : pkTail xs f v d s p = .ok K) (h3 : K.f = 3) : p + 9 ≤ xs.length ∧ xs.length ≤ p + 72 := by
  unfold pkTail at h
  split at h
  · split at h
    · cases h
    · split at h
      · cases h
      · cases h; simp at h3
  · split at h
    · split at h
      · cases h
      · rename_i hb; exact ret_len hb
    · split at h
      · have := ini_form h; omega
      · split at h
        · split at h
          · cases h
          · cases h; simp at h3
        · cases h
/-- How long a retry packet is. -/
theorem pk_retry {xs : List Int} {cl : Int} {K : PK} (h : pk xs cl = .ok K) (h3 : K.f = 3) : 16 ≤ xs.length ∧ xs.length ≤ 95 := by
  unfold pk at h
  split at h
  · cases h
  · rename_i h16
    split at h
    · cases h
    · split at h
      · cases h
      · split at h
        · cases h
        · split at h
          · unfold pkShP at h
            split at h
            · cases h
            · cases h; simp at h3
          · unfold pkLong at h
            split at h
            · cases h
            · split at h
              · cases h
              · rename_i d p1 hc1
                split at h
                · cases h
                · rename_i s p2 hc2
                  have t1 := tail_ret h h3
                  obtain ⟨a1, a2⟩ := cid_spec hc1
                  obtain ⟨b1, b2⟩ := cid_spec hc2
                  have l1 := cid_le8 hc1
                  have l2 := cid_le8 hc2
                  omega
end Go.Proofs.YtbbiinbjgognjaaDoor

namespace Go.Proofs.YtbbiinbjgognjaaDoor
open Go.RowKit
set_option linter.unusedVariables false

end Go.Proofs.YtbbiinbjgognjaaDoor

namespace Go.Proofs.YtbbiinbjgognjaaDoor
open Go.RowKit
set_option linter.unusedVariables false

end Go.Proofs.YtbbiinbjgognjaaDoor

namespace Go.Proofs.YtbbiinbjgognjaaDoor
open Go.RowKit
set_option linter.unusedVariables false

/-- A list of lists of bytes, as a slice of slices holds it. -/
def SRow (w : World) (v : Value) (L : List (List Int)) : Prop :=
  (L = [] ∧ ∃ ao cap, v = .slice ao 0 cap) ∨
  (∃ b off cap, v = .slice (some ⟨b, off, none⟩) L.length cap ∧ b < w.heap.size ∧ ∀ j, j < L.length → ∃ u, w.cell? ⟨b, off + j, none⟩ = some u ∧ Row w .u8 u (L.getD j []))
theorem SRow.form {w : World} {v : Value} {L : List (List Int)} (h : SRow w v L) : ∃ ao cap, v = .slice ao L.length cap := by
  rcases h with ⟨rfl, ao, cap, rfl⟩ | ⟨b, off, cap, rfl, _⟩
  · exact ⟨ao, cap, rfl⟩
  · exact ⟨_, _, rfl⟩
theorem SRow.below {w w' : World} {v : Value} {L : List (List Int)} (h : SRow w v L) (hb : Below w.heap.size w w') : SRow w' v L := by
  rcases h with h | ⟨b, off, cap, rfl, hl, hc⟩
  · exact Or.inl h
  · refine Or.inr ⟨b, off, cap, rfl, by have := hb.size; omega, fun j hj => ?_⟩
    obtain ⟨u, hu, hr⟩ := hc j hj
    exact ⟨u, (hb.cell (p := ⟨b, off + j, none⟩) hl).trans hu, hr.below hb⟩
theorem SRow.at' {w : World} {v : Value} {L : List (List Int)} (h : SRow w v L) (h0 : 0 < L.length) : ∃ b off cap, v = .slice (some ⟨b, off, none⟩) L.length cap ∧ b < w.heap.size ∧ ∀ j, j < L.length → ∃ u, w.cell? ⟨b, off + j, none⟩ = some u ∧ Row w .u8 u (L.getD j []) := by
  rcases h with ⟨rfl, _⟩ | h
  · simp at h0
  · exact h
/-- The bytes of the first k lists. -/
def sumL (L : List (List Int)) (k : Nat) : Nat := (L.take k).flatten.length
theorem sumL_zero (L : List (List Int)) : sumL L 0 = 0 := by simp [sumL]
theorem sumL_succ (L : List (List Int)) (k : Nat) (h : k < L.length) : sumL L (k + 1) = sumL L k + (L.getD k []).length := by
  unfold sumL
  rw [List.take_add_one, List.flatten_append, List.length_append]
  simp [List.getD, h]
/-- What szByteSS takes off. -/
def sizeL (L : List (List Int)) : Nat := L.length + sumL L L.length
theorem sumL_mono (L : List (List Int)) (k : Nat) (h : k ≤ L.length) : sumL L k ≤ sumL L L.length := by
  unfold sumL
  rw [List.take_length]
  conv => rhs; rw [← List.take_append_drop k L]
  rw [List.flatten_append, List.length_append]
  omega

theorem ss_off {wx : World} {base g n i : Nat} {u v : Value} {xs : List Value} (ho : wx.ownsRow base 5 1 v n xs) (hb : g < base) : (wx.setCell ⟨g, i, none⟩ u).ownsRow base 5 1 v n xs :=
  (Only.setCell (w := wx) ⟨g, i, none⟩ u).owns ho (fun k hk e => by have := (ho.lt k hk).1; have := Option.some.inj e; simp only at this; omega)
theorem infoSl : (Tryd.prog.info? 22).map (fun i => (i.zero, i.size, i.bytes)) = some (some (.slice none 0 0), 1, 24) := by kernel_rfl
end Go.Proofs.YtbbiinbjgognjaaDoor

namespace Go.Proofs.YtbbiinbjgognjaaDoor
open Go.RowKit
set_option linter.unusedVariables false

theorem eqSS_nil (va vb : Value) (w : World) (ha : SRow w va []) (hb : SRow w vb []) :
    Calls Tryd.prog 17 #[va, vb] w fun e w' => e = .returned (.bool true) ∧ Below w.heap.size w w' := by
  obtain ⟨ao, ca, rfl⟩ := ha.form
  obtain ⟨bo, cb, rfl⟩ := hb.form
  clear ha hb
  go_enter Tryd.func17, Tryd.ntmps17
  go_wp2_with fail
  refine wp_loop_rounds 1 ?_
  rw [rounds_succ]
  go_wp2
  go_ret
  exact ⟨rfl, Below.refl _ _⟩
set_option maxRecDepth 20000 in
set_option maxHeartbeats 2000000 in
theorem eqSS_core (L : List (List Int)) (m b off ca b' off' cb : Nat) (w : World) (em : m = L.length) (hm : m ≤ 1048576) (hs : ∀ j, (L.getD j []).length ≤ 1048576) (hbl : b < w.heap.size) (hbl' : b' < w.heap.size)
    (hc : ∀ j, j < m → ∃ u, w.cell? ⟨b, off + j, none⟩ = some u ∧ Row w .u8 u (L.getD j [])) (hc' : ∀ j, j < m → ∃ u, w.cell? ⟨b', off' + j, none⟩ = some u ∧ Row w .u8 u (L.getD j [])) :
    Calls Tryd.prog 17 #[.slice (some ⟨b, off, none⟩) m ca, .slice (some ⟨b', off', none⟩) m cb] w fun e w' => e = .returned (.bool true) ∧ Below w.heap.size w w' := by
  have HH : Hid _ := And.intro hc (And.intro hc' (And.intro hs em))
  clear hc hc' hs em
  have hmm : ((m : Int) != (m : Int)) = false := by simp
  go_enter Tryd.func17, Tryd.ntmps17
  go_wp2_with fail
  go_loopg [5] m (fun q i wr => ∃ k : Nat, k ≤ m ∧ q = m - k ∧ i = .int .i64 (k : Int) ∧ Below w.heap.size w wr)
  case atStart => exact ⟨0, by omega, by omega, rfl, Below.refl _ _⟩
  case round =>
    obtain ⟨k, hk, hq, rfl, bw⟩ := hrel
    by_cases hlt : k < m
    · obtain ⟨u, hu, ru⟩ := HH.out.1 k hlt
      obtain ⟨u', hu', ru'⟩ := HH.out.2.1 k hlt
      have bd : Below w.heap.size w wr.drew := below_drewN bw 1
      have c0 := (bd.cell (p := ⟨b, off + k, none⟩) hbl).trans hu
      have c1 := (bd.cell (p := ⟨b', off' + k, none⟩) hbl').trans hu'
      have EQ := eqBytes_same u u' (L.getD k []) wr.drew (ru.below bd) (ru'.below bd) (by have := HH.out.2.2.1 k; omega)
      have H4 : Hid _ := And.intro EQ bd
      clear hu ru hu' ru' EQ bd
      go_upto_region 6 with fail
      go_cut [26] from 11 to 26 (fun cv wx => cv = .bool false ∧ Below w.heap.size w wx)
      case first =>
        go_region_with (go_at_call 11; refine H4.out.1.mono ?_; rintro e wz ⟨rfl, mz, hz⟩)
        all_goals (go_wp2_with fail; go_meet; exact ⟨rfl, below_drewN bw _⟩)
      case rest =>
      obtain ⟨rfl, bc⟩ := hcut
      have H5 : Hid _ := And.intro bc True.intro
      clear bc bw c0 c1
      go_wp2
      go_roundg (m - (k + 1))
      case measure => omega
      case rel => exact ⟨k + 1, by omega, rfl, by go_num, H5.out.1⟩
    · have H4 : Hid _ := And.intro bw True.intro
      clear bw
      go_wp2
      go_ret
      exact ⟨rfl, H4.out.1⟩
theorem eqSS_same (va vb : Value) (L : List (List Int)) (w : World) (ha : SRow w va L) (hb : SRow w vb L) (hm : L.length ≤ 1048576) (hs : ∀ j, (L.getD j []).length ≤ 1048576) :
    Calls Tryd.prog 17 #[va, vb] w fun e w' => e = .returned (.bool true) ∧ Below w.heap.size w w' := by
  by_cases h0 : 0 < L.length
  · obtain ⟨b, off, ca, rfl, hbl, hc⟩ := ha.at' h0
    obtain ⟨b', off', cb, rfl, hbl', hc'⟩ := hb.at' h0
    exact eqSS_core L _ b off ca b' off' cb w rfl hm hs hbl hbl' hc hc'
  · obtain rfl : L = [] := List.eq_nil_of_length_eq_zero (by omega)
    exact eqSS_nil va vb w ha hb
end Go.Proofs.YtbbiinbjgognjaaDoor

namespace Go.Proofs.YtbbiinbjgognjaaDoor
open Go.RowKit
set_option linter.unusedVariables false

/-- A list of lists of bytes of one's own: the outer row holds P, each of P is a row of one's own, no two of them in one block. -/
def SOwns (w : World) (base : Nat) (v : Value) (L : List (List Int)) : Prop :=
  ∃ P : List Value, w.ownsRow base 22 1 v L.length P ∧ (∀ j, j < L.length → ∃ u, P[j]? = some u ∧ w.ownsRow base 5 1 u (L.getD j []).length ((L.getD j []).map (Value.int .u8))) ∧
    (∀ (i j : Nat) (u u' : Value), i < j → P[i]? = some u → P[j]? = some u' → ∀ k, u'.ownBlock = some k → some k ≠ u.ownBlock)
theorem owns_type {w : World} {base e n s : Nat} {v : Value} {xs : List Value} (h : w.ownsRow base e s v n xs) (k : Nat) (hk : v.ownBlock = some k) : ∃ cur, w.heap[k]? = some (.cells cur e (0, 0)) := by
  rcases h.2 with ⟨rfl, _⟩ | ⟨g, cap, cur, rfl, _, hg, _⟩
  · cases hk
  · have e : g = k := by simpa [Value.ownBlock] using hk
    subst e
    exact ⟨cur, hg⟩
theorem types_apart {w : World} {b1 b2 n1 n2 : Nat} {v1 v2 : Value} {x1 x2 : List Value} (h1 : w.ownsRow b1 22 1 v1 n1 x1) (h2 : w.ownsRow b2 5 1 v2 n2 x2) (k : Nat) (hk : v1.ownBlock = some k) : some k ≠ v2.ownBlock := by
  intro e
  obtain ⟨c1, e1⟩ := owns_type h1 k hk
  obtain ⟨c2, e2⟩ := owns_type h2 k e.symm
  rw [e1] at e2
  have := Option.some.inj e2
  injection this with _ ht
  exact absurd ht (by decide)
theorem SOwns.row {w : World} {base : Nat} {v : Value} {L : List (List Int)} (h : SOwns w base v L) : SRow w v L := by
  obtain ⟨P, ho, hp, _⟩ := h
  by_cases h0 : L.length = 0
  · have hL : L = [] := List.eq_nil_of_length_eq_zero h0
    rcases ho.2 with ⟨rfl, _⟩ | ⟨g, cap, cur, rfl, _⟩
    · exact Or.inl ⟨hL, _, _, rfl⟩
    · exact Or.inl ⟨hL, _, _, by rw [h0]⟩
  · have ho' := ho
    rcases ho.2 with ⟨_, h1⟩ | ⟨g, cap, cur, rfl, hb, hg, _⟩
    · omega
    · refine Or.inr ⟨g, 0, cap, rfl, (Array.getElem?_eq_some_iff.1 hg).1, fun j hj => ?_⟩
      obtain ⟨u, hu, hr⟩ := hp j hj
      have e0 := ho'.cellAt j (by omega)
      rw [Nat.zero_add]
      exact ⟨u, e0.trans hu, row_of_owns hr⟩
theorem SOwns.below {w w' : World} {base : Nat} {v : Value} {L : List (List Int)} (h : SOwns w base v L) (hb : Below w.heap.size w w') : SOwns w' base v L := by
  obtain ⟨P, ho, hp, ha⟩ := h
  exact ⟨P, owns_below ho hb, fun j hj => by obtain ⟨u, hu, hr⟩ := hp j hj; exact ⟨u, hu, owns_below hr hb⟩, ha⟩
theorem SOwns.mono {w : World} {base base' : Nat} {v : Value} {L : List (List Int)} (h : SOwns w base v L) (hb : base' ≤ base) : SOwns w base' v L := by
  obtain ⟨P, ho, hp, ha⟩ := h
  exact ⟨P, owns_mono ho hb, fun j hj => by obtain ⟨u, hu, hr⟩ := hp j hj; exact ⟨u, hu, owns_mono hr hb⟩, ha⟩
theorem SOwns.nil (w : World) (base : Nat) : SOwns w base (.slice none 0 0) [] := ⟨[], World.ownsRow_nil _ _ _ _, fun j hj => by simp at hj, fun i j u u' _ h => by simp at h⟩
theorem SOwns.lit0 (w : World) (base : Nat) (hb : base ≤ w.heap.size) : SOwns (w.alloc (.cells #[] 22)) base (.slice (some ⟨w.heap.size, 0, none⟩) 0 0) [] := ⟨[], World.ownsRow_lit _ #[] 0 hb (by decide) rfl, fun j hj => by simp at hj, fun i j u u' _ h => by simp at h⟩
/-- What markByteSS makes of a list of lists. -/
def marksSS (q : Int) (L : List (List Int)) : List (List Int) := (List.range L.length).map fun j => marks (q + (sumL L j : Int)) (L.getD j []).length
theorem marksSS_length (q : Int) (L : List (List Int)) : (marksSS q L).length = L.length := by simp [marksSS]
theorem marksSS_at (q : Int) (L : List (List Int)) (j : Nat) (h : j < L.length) : (marksSS q L).getD j [] = marks (q + (sumL L j : Int)) (L.getD j []).length := by simp [marksSS, List.getD, h]
theorem heldSS_nil (q : Int) (ao : Option Addr) (cp : Nat) (w : World) : Calls Tryd.prog 19 #[.slice ao 0 cp, .int .i64 q] w fun e w' => e = .returned (.int .i64 q) ∧ w' = w := by
  go_enter Tryd.func19, Tryd.ntmps19
  go_wp2
  refine wp_loop_rounds 1 ?_
  rw [rounds_succ]
  go_wp2
  go_ret
  exact ⟨rfl, rfl⟩
set_option maxRecDepth 20000 in
set_option maxHeartbeats 2000000 in
theorem heldSS (q : Int) (L : List (List Int)) (v : Value) (w : World) (h : SRow w v (marksSS q L)) (hn : L.length ≤ 1048576) (hs : sumL L L.length ≤ 1048576) (hq0 : 0 ≤ q) (hq1 : q ≤ 4194304) :
    Calls Tryd.prog 19 #[v, .int .i64 q] w fun e w' => e = .returned (.int .i64 (q + (sumL L L.length : Int))) ∧ w' = w := by
  obtain ⟨m, em⟩ : ∃ m, m = L.length := ⟨_, rfl⟩
  by_cases h0 : 0 < m
  · obtain ⟨b, off, cap, rfl, hbl, hc⟩ := h.at' (by rw [marksSS_length]; omega)
    rw [marksSS_length, ← em]
    have HH : Hid _ := And.intro hc (And.intro em hs)
    have hm : m ≤ 1048576 := by omega
    clear hc em hs h hn
    go_enter Tryd.func19, Tryd.ntmps19
    go_wp2_with fail
    go_loopg [1, 5] m (fun z s i wr => ∃ k : Nat, k ≤ m ∧ z = m - k ∧ i = .int .i64 (k : Int) ∧ s = .int .i64 (q + (sumL L k : Int)) ∧ wr = w)
    case atStart => exact ⟨0, by omega, by omega, rfl, by rw [sumL_zero]; simp, rfl⟩
    case round =>
      obtain ⟨k, hk, hz, rfl, rfl, ewr⟩ := hrel
      subst wr
      by_cases hlt : k < m
      · obtain ⟨u, hu, ru⟩ := HH.out.1 k (by rw [marksSS_length]; have := HH.out.2.1; omega)
        rw [marksSS_at q L k (by have := HH.out.2.1; omega)] at ru
        have hsk := sumL_mono L (k + 1) (by have := HH.out.2.1; omega)
        rw [sumL_succ L k (by have := HH.out.2.1; omega)] at hsk
        obtain ⟨s, es⟩ : ∃ s, s = q + (sumL L k : Int) := ⟨_, rfl⟩
        have C := heldBytes s (L.getD k []).length u w (by rw [es]; exact ru) (by have := HH.out.2.2; omega) (by omega) (by have := HH.out.2.2; omega)
        obtain ⟨s1, es1⟩ : ∃ s1, s1 = s + ((L.getD k []).length : Int) := ⟨_, rfl⟩
        have hns : ¬ (s1 < 0) := by omega
        rw [← es1] at C
        have H2 : Hid _ := And.intro C (And.intro es es1)
        rw [← es]
        clear C es es1 hsk ru
        go_wp2_with (go_at_call 30; refine H2.out.1.mono ?_; rintro e w' ⟨rfl, hw⟩; subst w')
        go_roundg (m - (k + 1))
        case measure => omega
        case rel => exact ⟨k + 1, by omega, rfl, by go_num, by rw [sumL_succ L k (by have := HH.out.2.1; omega), H2.out.2.2, H2.out.2.1]; congr 1; omega, by trivial⟩
      · obtain rfl : k = m := by omega
        go_wp2
        go_ret
        exact ⟨rfl, by trivial⟩
  · have e0 : L = [] := List.eq_nil_of_length_eq_zero (by omega)
    subst e0
    obtain ⟨ao, cp, rfl⟩ := h.form
    have := heldSS_nil q ao cp w
    simpa [marksSS, sumL] using this
theorem markSS_nil (q : Int) (ao : Option Addr) (cp : Nat) (w : World) : Calls Tryd.prog 18 #[.slice ao 0 cp, .int .i64 q] w fun e w' => e = .returned (.int .i64 q) ∧ w' = w := by
  go_enter Tryd.func18, Tryd.ntmps18
  go_wp2
  refine wp_loop_rounds 1 ?_
  rw [rounds_succ]
  go_wp2
  go_ret
  exact ⟨rfl, rfl⟩
set_option maxRecDepth 20000 in
set_option maxHeartbeats 2000000 in
theorem markSS (q : Int) (base : Nat) (L : List (List Int)) (v : Value) (w : World) (h : SOwns w base v L) (hn : L.length ≤ 1048576) (hs : sumL L L.length ≤ 1048576) (hq0 : 0 ≤ q) (hq1 : q ≤ 4194304) :
    Calls Tryd.prog 18 #[v, .int .i64 q] w fun e w' => e = .returned (.int .i64 (q + (sumL L L.length : Int))) ∧ SOwns w' base v (marksSS q L) ∧ Below base w w' := by
  obtain ⟨m, em⟩ : ∃ m, m = L.length := ⟨_, rfl⟩
  by_cases h0 : 0 < m
  · obtain ⟨P, ho, hp, ha⟩ := id h
    rcases ho.2 with ⟨_, h1⟩ | ⟨g, cap, cur, ev, hb, hg, _⟩
    · omega
    subst ev
    rw [← em] at ho hp ⊢
    have HH : Hid _ := And.intro ha (And.intro em hs)
    have hm : m ≤ 1048576 := by omega
    have HP : Hid _ := And.intro ho hp
    clear ho hp ha em hs h hn hg
    go_enter Tryd.func18, Tryd.ntmps18
    go_wp2_with fail
    go_loopg [1, 5] m (fun z s i wr => ∃ k : Nat, k ≤ m ∧ z = m - k ∧ i = .int .i64 (k : Int) ∧ s = .int .i64 (q + (sumL L k : Int)) ∧ wr.ownsRow base 22 1 (.slice (some ⟨g, 0, none⟩) m cap) m P ∧ (∀ j, j < m → ∃ u, P[j]? = some u ∧ (j < k → wr.ownsRow base 5 1 u (L.getD j []).length ((marks (q + (sumL L j : Int)) (L.getD j []).length).map (Value.int .u8))) ∧ (k ≤ j → wr.ownsRow base 5 1 u (L.getD j []).length ((L.getD j []).map (Value.int .u8)))) ∧ Below base w wr)
    case atStart => exact ⟨0, by omega, by omega, rfl, by rw [sumL_zero]; simp, HP.out.1, fun j hj => by obtain ⟨u, hu, hr⟩ := HP.out.2 j hj; exact ⟨u, hu, fun h => absurd h (by omega), fun _ => hr⟩, Below.refl _ _⟩
    case round =>
      obtain ⟨k, hk, hz, rfl, rfl, ow, hpk, bw⟩ := hrel
      by_cases hlt : k < m
      · obtain ⟨u, hu, _, ru⟩ := hpk k hlt
        have ru' := ru (Nat.le_refl _)
        have hsk := sumL_mono L (k + 1) (by have := HH.out.2.1; omega)
        rw [sumL_succ L k (by have := HH.out.2.1; omega)] at hsk
        obtain ⟨s, es⟩ : ∃ s, s = q + (sumL L k : Int) := ⟨_, rfl⟩
        have C := markBytes s (L.getD k []).length base u (L.getD k []) wr (by have := HH.out.2.2; omega) (by omega) (by have := HH.out.2.2; omega) ru'
        obtain ⟨s1, es1⟩ : ∃ s1, s1 = s + ((L.getD k []).length : Int) := ⟨_, rfl⟩
        rw [← es1] at C
        have ES1 : Hid _ := And.intro es1 True.intro
        clear es1
        have c0 : wr.cell? ⟨g, k, none⟩ = some u := (ow.cellAt k (by omega)).trans hu
        have H2 : Hid _ := And.intro C (And.intro es (And.intro ow (And.intro hpk (And.intro bw (And.intro hu ru')))))
        rw [← es]
        clear C es hsk ru ru' ow hpk bw hu
        go_wp2_with (go_at_call 12; refine H2.out.1.mono ?_; rintro e w2 ⟨rfl, o2, b2, z2, n2⟩)
        have H3 : Hid _ := And.intro o2 (And.intro b2 (And.intro z2 n2))
        clear o2 b2 z2 n2
        go_roundg (m - (k + 1))
        case measure => omega
        case rel =>
          obtain ⟨_, es, ow, hpk, bw, hu, ru'⟩ := H2.out
          obtain ⟨o2, b2, z2, n2⟩ := H3.out
          refine ⟨k + 1, by omega, rfl, by go_num, by rw [sumL_succ L k (by have := HH.out.2.1; omega), ES1.out.1, es]; congr 1; omega, n2.owns ow (fun t ht => types_apart ow ru' t ht), fun j hj => ?_, bw.trans b2⟩
          obtain ⟨uj, huj, hlo, hhi⟩ := hpk j hj
          refine ⟨uj, huj, fun hjk => ?_, fun hkj => ?_⟩
          · by_cases e : j = k
            · subst e
              have e2 : uj = u := Option.some.inj (huj.symm.trans hu)
              rw [e2, ← es]
              exact o2
            · exact n2.owns (hlo (by omega)) (fun t ht e3 => HH.out.1 j k uj u (by omega) huj hu t e3.symm ht.symm)
          · exact n2.owns (hhi (by omega)) (fun t ht => HH.out.1 k j u uj (by omega) hu huj t ht)
      · obtain rfl : k = m := by omega
        have H2 : Hid _ := And.intro ow (And.intro hpk bw)
        clear ow hpk bw
        go_wp2
        go_ret
        refine ⟨rfl, ⟨P, by rw [marksSS_length, ← HH.out.2.1]; exact H2.out.1, fun j hj => ?_, HH.out.1⟩, H2.out.2.2⟩
        rw [marksSS_length] at hj
        obtain ⟨u, hu, hlo, _⟩ := H2.out.2.1 j (by have := HH.out.2.1; omega)
        rw [marksSS_at q L j hj]
        exact ⟨u, hu, by rw [marks_length]; exact hlo (by have := HH.out.2.1; omega)⟩
  · have e0 : L = [] := List.eq_nil_of_length_eq_zero (by omega)
    subst e0
    obtain ⟨ao, cp, ev⟩ := h.row.form
    subst ev
    refine (markSS_nil q ao cp w).mono ?_
    rintro e w' ⟨rfl, rfl⟩
    exact ⟨by simp [sumL], h, Below.refl _ _⟩
end Go.Proofs.YtbbiinbjgognjaaDoor

namespace Go.Proofs.YtbbiinbjgognjaaDoor
open Go.RowKit
set_option linter.unusedVariables false

theorem beh_fin {xs : List Int} {p a q : Nat} (h : pkBeh xs p = .ok (a, q)) : 0 < q ∧ q ≤ xs.length := by
  unfold pkBeh at h
  split at h
  · split at h
    · cases h
    · split at h
      · cases h
      · simp only [Except.ok.injEq, Prod.mk.injEq] at h
        obtain ⟨_, rfl⟩ := h
        omega
  · cases h
theorem tail_fin {xs : List Int} {f v : Int} {d s : List Int} {p : Nat} {K : PK} (hx : 0 < xs.length) (h : pkTail xs f v d s p = .ok K) : 0 < K.fin ∧ K.fin ≤ xs.length := by
  unfold pkTail at h
  split at h
  · split at h
    · cases h
    · split at h
      · cases h
      · cases h; exact ⟨hx, Nat.le_refl _⟩
  · split at h
    · split at h
      · cases h
      · cases h; exact ⟨hx, Nat.le_refl _⟩
    · split at h
      · unfold pkIni at h
        split at h
        · split at h
          · cases h
          · split at h
            · cases h
            · split at h
              · cases h
              · rename_i hb
                cases h
                exact beh_fin hb
        · cases h
      · split at h
        · split at h
          · cases h
          · rename_i hb
            cases h
            exact beh_fin hb
        · cases h
theorem pk_fin {xs : List Int} {cl : Int} {K : PK} (h : pk xs cl = .ok K) : 0 < K.fin ∧ K.fin ≤ xs.length := by
  unfold pk at h
  split at h
  · cases h
  · split at h
    · cases h
    · split at h
      · cases h
      · rename_i hx
        split at h
        · cases h
        · split at h
          · unfold pkShP at h
            split at h
            · cases h
            · cases h; exact ⟨by show 0 < xs.length; omega, Nat.le_refl _⟩
          · unfold pkLong at h
            split at h
            · cases h
            · split at h
              · cases h
              · split at h
                · cases h
                · exact tail_fin (by omega) h
theorem pk_longL (xs : List Int) (cl : Int) (h : 65536 < xs.length) : pk xs cl = .error 4 := by unfold pk; rw [if_pos h]
theorem pk_badc (xs : List Int) (cl : Int) (h : ¬ (0 ≤ cl ∧ cl ≤ 8)) : ∃ c, pk xs cl = .error c := by
  unfold pk
  split
  · exact ⟨_, rfl⟩
  · exact ⟨1, rfl⟩
/-- What a datagram is cut into. -/
def spl (cl : Int) : Nat → List Int → List (List Int)
  | 0, _ => []
  | f + 1, xs => if xs.length = 0 then [] else match pk xs cl with | .error _ => [] | .ok K => xs.take K.fin :: spl cl f (xs.drop K.fin)
theorem spl_nil (cl : Int) (f : Nat) (xs : List Int) (h : xs.length = 0) : spl cl f xs = [] := by
  cases f with
  | zero => rfl
  | succ f => show (if xs.length = 0 then _ else _) = _; rw [if_pos h]
theorem spl_err (cl : Int) (f : Nat) (xs : List Int) {c : Int} (h : pk xs cl = .error c) : spl cl f xs = [] := by
  cases f with
  | zero => rfl
  | succ f =>
    show (if xs.length = 0 then _ else match pk xs cl with | .error _ => [] | .ok K => xs.take K.fin :: spl cl f (xs.drop K.fin)) = _
    split
    · rfl
    · rw [h]
theorem spl_ok (cl : Int) (f : Nat) (xs : List Int) {K : PK} (h0 : 0 < xs.length) (h : pk xs cl = .ok K) : spl cl (f + 1) xs = xs.take K.fin :: spl cl f (xs.drop K.fin) := by
  show (if xs.length = 0 then _ else match pk xs cl with | .error _ => [] | .ok K => xs.take K.fin :: spl cl f (xs.drop K.fin)) = _
  rw [if_neg (by omega), h]
theorem spl_length (cl : Int) (f : Nat) (xs : List Int) : (spl cl f xs).length ≤ f := by
  induction f generalizing xs with
  | zero => exact Nat.le_refl _
  | succ f ih =>
    show (if xs.length = 0 then [] else match pk xs cl with | .error _ => [] | .ok K => xs.take K.fin :: spl cl f (xs.drop K.fin)).length ≤ _
    split
    · simp
    · split
      · simp
      · rename_i K hK
        have := ih (xs.drop K.fin)
        simp only [List.length_cons]
        omega
theorem spl_sum (cl : Int) (f : Nat) (xs : List Int) : (spl cl f xs).flatten.length ≤ xs.length := by
  induction f generalizing xs with
  | zero => simp [spl]
  | succ f ih =>
    show (if xs.length = 0 then [] else match pk xs cl with | .error _ => [] | .ok K => xs.take K.fin :: spl cl f (xs.drop K.fin)).flatten.length ≤ _
    split
    · simp
    · split
      · simp
      · rename_i K hK
        have h1 := ih (xs.drop K.fin)
        have h2 := (pk_fin hK).2
        rw [List.length_drop] at h1
        simp only [List.flatten_cons, List.length_append, List.length_take]
        omega
theorem Lies.drop {w : World} {b off n cap : Nat} {xs : List Int} (h : Lies w b off n cap xs) (a : Nat) (ha : a ≤ n) : Lies w b (off + a) (n - a) (cap - a) (xs.drop a) :=
  ⟨by rw [List.length_drop, h.len], h.lt, by have := h.fits; omega, by have := h.most; omega, fun j hj => by
    have := h.cell (a + j) (by omega)
    rw [← Nat.add_assoc] at this
    rw [this]
    simp [List.getD]⟩
theorem owns_grown {w w' : World} {base e s n : Nat} {v : Value} {xs : List Value} {row : Option Nat} (h : w.ownsRow base e s v n xs) (g : w.grownBy w' row) (hn : ∀ k, v.ownBlock = some k → some k ≠ row) : w'.ownsRow base e s v n xs := by
  obtain ⟨hl, h2⟩ := h
  refine ⟨hl, ?_⟩
  rcases h2 with h2 | ⟨q, cap, cur, rfl, hb, hq, r⟩
  · exact Or.inl h2
  · refine Or.inr ⟨q, cap, cur, rfl, hb, (g.block q (Array.getElem?_eq_some_iff.1 hq).1 ?_).trans hq, r⟩
    exact fun e => hn q rfl e
/-- One list more. -/
theorem SOwns.push {w w2 w4 : World} {base : Nat} {v v' r : Value} {o : Obj} {L : List (List Int)} {ys : List Int} {P : List Value} (ho : w.ownsRow base 22 1 v L.length P) (hp : ∀ j, j < L.length → ∃ u, P[j]? = some u ∧ w.ownsRow base 5 1 u (L.getD j []).length ((L.getD j []).map (Value.int .u8)))
    (ha : ∀ (i j : Nat) (u u' : Value), i < j → P[i]? = some u → P[j]? = some u' → ∀ k, u'.ownBlock = some k → some k ≠ u.ownBlock) (hb : Below w.heap.size w w2) (hr : w2.ownsRow w.heap.size 5 1 r ys.length (ys.map (Value.int .u8))) (g : (w2.alloc o).grownBy w4 v.ownBlock) (h4 : w4.ownsRow base 22 1 v' (L.length + 1) (P ++ [r])) (hbase : base ≤ w.heap.size) : SOwns w4 base v' (L ++ [ys]) := by
  have A : Below w2.heap.size w2 (w2.alloc o) := (Below.refl _ _).alloc (Nat.le_refl _) o
  have bA := hb.trans (A.mono hb.size)
  have oA := owns_below ho bA
  have hl : P.length = L.length := by have := ho.1; omega
  have keep : ∀ {u : Value} {n : Nat} {zs : List Value} {b : Nat}, (w2.alloc o).ownsRow b 5 1 u n zs → w4.ownsRow b 5 1 u n zs := fun hu => owns_grown hu g (fun k hk e => types_apart oA hu k e.symm hk.symm)
  refine ⟨P ++ [r], by rw [List.length_append]; exact h4, fun j hj => ?_, fun i j u u' hij hi hj k hk => ?_⟩
  · rw [List.length_append, List.length_singleton] at hj
    by_cases e : j < L.length
    · obtain ⟨u, hu, hw⟩ := hp j e
      have e1 : (L ++ [ys]).getD j [] = L.getD j [] := by simp [List.getD, List.getElem?_append_left e]
      rw [e1]
      exact ⟨u, by rw [List.getElem?_append_left (by omega)]; exact hu, keep (owns_below hw bA)⟩
    · obtain rfl : j = L.length := by omega
      have e1 : (L ++ [ys]).getD L.length [] = ys := by simp [List.getD]
      rw [e1]
      exact ⟨r, by rw [List.getElem?_append_right (by omega), hl]; simp, keep (owns_mono (owns_below hr A) hbase)⟩
  · by_cases e : j < L.length
    · rw [List.getElem?_append_left (by omega)] at hi hj
      exact ha i j u u' hij hi hj k hk
    · have hjl : j = L.length := by
        have := (List.getElem?_eq_some_iff.1 hj).1
        rw [List.length_append, List.length_singleton] at this
        omega
      subst hjl
      rw [List.getElem?_append_right (by omega), hl] at hj
      simp only [Nat.sub_self, List.getElem?_cons_zero, Option.some.injEq] at hj
      subst hj
      rw [List.getElem?_append_left (by omega)] at hi
      obtain ⟨u2, hu2, hw⟩ := hp i (by omega)
      obtain rfl : u2 = u := Option.some.inj (hu2.symm.trans hi)
      intro e2
      have h1 := (hw.lt k e2.symm).2
      have h2 := (hr.lt k hk).1
      omega
/-- 'append(own, u)' of one slice. -/
theorem wpList_append_sl {w : World} {ops : Array Oper} {rest : List Oper} {o : Oper} {a : Act} {Q : Exit → Act → World → Prop} (hgd : o.guard = none) (p q : Operand)
    (ho : o.op = .call { callee := .builtin .append, args := #[p, q], argTypes := #[33, 33] })
    (base : Nat) (v : Value) (n : Nat) (P : List Value) (hp : a.eval p = v) (hown : w.ownsRow base 22 1 v n P) (g : Nat) (ra : Option Addr) (rn rc : Nat) (hq : a.eval q = .slice (some ⟨g, 0, none⟩) 1 1) (hx : w.cell? ⟨g, 0, none⟩ = some (.slice ra rn rc)) (h63 : n + 1 ≤ 1048576) (hbase : base ≤ w.heap.size)
    (h : ∀ v' w', w'.ownsRow base 22 1 v' (n + 1) (P ++ [.slice ra rn rc]) → w.grownBy w' v.ownBlock → wpList Tryd.prog ops Q rest (a.put o.dst v') w') :
    wpList Tryd.prog ops Q (o :: rest) a w := by
  obtain ⟨i0, hi, hz0, hz1, hz2⟩ := info_parts infoSl
  refine wpList_append_own w hgd p q 33 ho base 22 i0 (.slice none 0 0) 1 24 Tryd.underlying33 hi hz0 hz1 hz2 rfl (by decide) v n P hp hown ⟨g, 0, none⟩ 1 1 [.slice ra rn rc] hq rfl ?_ ?_ (by unfold maxLen; omega) (by omega) hbase ?_
  · intro j u hj
    match j, hj with
    | 0, hj => simp at hj; subst hj; rw [Go.WideShapes.add_plain]; exact hx
  · intro u hu; simp at hu; subst hu; rfl
  · intro v' w' ho' hg _
    exact h v' w' ho' hg
end Go.Proofs.YtbbiinbjgognjaaDoor

namespace Go.Proofs.YtbbiinbjgognjaaDoor
open Go.RowKit
set_option linter.unusedVariables false

theorem Lies.whole {w : World} {b off n cap : Nat} {xs : List Int} (h : Lies w b off n cap xs) : Row w .u8 (.slice (some ⟨b, off, none⟩) n cap) xs := by
  have := h.row 0 n (by omega)
  rw [Nat.add_zero, Nat.sub_zero, List.drop_zero, List.take_of_length_le (Nat.le_of_eq h.len)] at this
  exact this
theorem splI_nil (ao : Option Addr) (cp : Nat) (cl : Int) (w : World) : Calls Tryd.prog 16 #[.slice ao 0 cp, .int .i64 cl] w fun e w' => e = .returned (.slice none 0 0) ∧ w' = w := by
  go_enter Tryd.func16, Tryd.ntmps16
  go_wp2_with fail
  refine wp_loop_rounds 1 ?_
  rw [rounds_succ]
  go_wp2
  go_ret
  exact ⟨rfl, rfl⟩
set_option maxRecDepth 20000 in
set_option maxHeartbeats 4000000 in
theorem splI_core (b off n cap : Nat) (cl : Int) (xs : List Int) (w : World) (ht : T3 w) (hl : Lies w b off n cap xs) (hB : Bytes xs) (h0 : 0 < n) :
    Calls Tryd.prog 16 #[.slice (some ⟨b, off, none⟩) n cap, .int .i64 cl] w fun e w' => ∃ r, e = .returned r ∧ SOwns w' w.heap.size r (spl cl 16 xs) ∧ Below w.heap.size w w' := by
  have hcap : cap ≤ 9223372036854775807 := Nat.le_trans hl.most (by decide)
  have hfit : n ≤ cap := hl.fits
  have HH : Hid _ := And.intro ht (And.intro hl hB)
  clear ht hl hB
  go_enter Tryd.func16, Tryd.ntmps16
  go_wp2_with fail
  go_loopg [5, 6] 16 (fun z p i wr => ∃ (j a : Nat) (L : List (List Int)), j ≤ 16 ∧ z = 16 - j ∧ L.length = j ∧ a ≤ n ∧ i = .int .i64 (a : Int) ∧ SOwns wr w.heap.size p L ∧ Below w.heap.size w wr ∧ spl cl 16 xs = L ++ spl cl (16 - j) (xs.drop a))
  case atStart => exact ⟨0, 0, [], by omega, by omega, rfl, by omega, rfl, SOwns.nil _ _, Below.refl _ _, by simp⟩
  case round =>
    obtain ⟨j, a, L, hj, hz, hlen, ha, rfl, ow, bw, hspl⟩ := hrel
    obtain ⟨pa, pc, ep⟩ := ow.row.form
    rw [hlen] at ep
    subst ep
    by_cases hlt : a < n
    · by_cases hj16 : j < 16
      · have hd := HH.out.2.1.below bw
        have hdr := hd.drop a (by omega)
        have hne : ¬ cap = a := by omega
        have hpn : (a : Int) ≤ (cap : Int) := by omega
        have hpa : (a : Int) ≤ (n : Int) := by omega
        have hxl : (xs.drop a).length = n - a := hdr.len
        have CP := implPk (.slice (some ⟨b, off + a, none⟩) (n - a) (cap - a)) cl (xs.drop a) wr (HH.out.1.below bw HH.out.1.lt) hdr.whole (fun x hx => HH.out.2.2 x (List.mem_of_mem_drop hx)) (by rw [hxl]; omega)
        have H2 : Hid _ := And.intro CP (And.intro ow (And.intro bw (And.intro hspl (And.intro hdr (And.intro hxl hlen)))))
        clear CP ow bw hspl hdr hxl hlen hd
        go_wp2_with fail
        go_at_call 9
        refine H2.out.1.mono ?_
        rintro e w2 ⟨b2, ⟨c, hc, rfl⟩ | ⟨K, vd, vs, vt, hc, rfl, hoK⟩⟩
        · have hcne : (c != 0) = true := by simpa using pk_err hc
          have er : spl cl 16 xs = L := by rw [H2.out.2.2.2.1, spl_err cl _ _ hc, List.append_nil]
          have H3 : Hid _ := And.intro er b2
          clear er b2 hc
          go_wp2
          go_ret
          refine ⟨_, rfl, ?_, (H2.out.2.2.1.trans (H3.out.2.mono H2.out.2.2.1.size)).alloc (H2.out.2.2.1.trans (H3.out.2.mono H2.out.2.2.1.size)).size _⟩
          rw [H3.out.1]
          exact H2.out.2.1.below (H3.out.2.alloc H3.out.2.size _)
        · obtain ⟨hf0, hf1⟩ := pk_fin hc
          have hf6 : K.fin ≤ 65536 := by
            by_cases h6 : 65536 < (xs.drop a).length
            · rw [pk_longL _ _ h6] at hc; cases hc
            · omega
          rw [H2.out.2.2.2.2.2.1] at hf1
          obtain ⟨da, dp, ed⟩ := (row_of_owns hoK.o0).form
          obtain ⟨sa, sp, es⟩ := (row_of_owns hoK.o1).form
          obtain ⟨ta, tp, et⟩ := (row_of_owns hoK.o2).form
          dsimp only at ed es et
          subst ed es et
          obtain ⟨F, eF⟩ : ∃ F, F = K.fin := ⟨_, rfl⟩
          rw [← eF] at hf0 hf1 hf6
          obtain ⟨q, eq⟩ : ∃ q, q = a + F := ⟨_, rfl⟩
          have hw : IntKind.i64.wrap ((a : Int) + (F : Int)) = (q : Int) := by rw [IntKind.wrap_i64]; omega
          have hqa : q - a = F := by omega
          have hqn : q ≤ n := by omega
          have haq : a ≤ q := by omega
          have er : spl cl 16 xs = (L ++ [(xs.drop a).take F]) ++ spl cl (16 - (j + 1)) (xs.drop q) := by
            have e16 : 16 - j = (16 - (j + 1)) + 1 := by omega
            rw [H2.out.2.2.2.1, e16, spl_ok cl _ _ (by rw [H2.out.2.2.2.2.2.1]; omega) hc, ← eF, List.drop_drop, eq]
            simp
          have rY : Row wr .u8 (.slice (some ⟨b, off + a, none⟩) F (cap - a)) ((xs.drop a).take F) := by
            have := H2.out.2.2.2.2.1.row 0 F (by omega)
            rw [Nat.add_zero, Nat.sub_zero, List.drop_zero] at this
            exact this
          have lY : ((xs.drop a).take F).length = F := by rw [List.length_take, H2.out.2.2.2.2.2.1]; omega
          have AH : ∀ o : Obj, Below wr.heap.size wr (w2.alloc o) := fun o => b2.alloc b2.size o
          obtain ⟨P, ho, hp, hap⟩ := H2.out.2.1
          rw [H2.out.2.2.2.2.2.2] at ho
          have H3 : Hid _ := And.intro er (And.intro b2 (And.intro rY (And.intro lY (And.intro AH (And.intro ho (And.intro hp (And.intro hap (And.intro eq eF))))))))
          rw [← eF]
          clear er b2 rY lY AH ho hp hap hc hoK eq eF hf0 hf1
          go_wp2_with (first
            | (at_builtin; refine wpList_append_row rfl (.const _) (.tmp 36) rfl wr.heap.size (.slice none 0 0) 0 [] rfl (World.ownsRow_nil _ _ _ _) _ ((xs.drop a).take F) rfl (H3.out.2.2.1.below (H3.out.2.2.2.2.1 _)) (by rw [H3.out.2.2.2.1]; omega) (H3.out.2.2.2.2.1 _).size ?_; intro r w4 o4 g4; have B4 : Below wr.heap.size wr w4 := (H3.out.2.2.2.2.1 _).grown g4 (H3.out.2.2.2.2.1 _).size (fun t ht => by cases ht); have o4' : w4.ownsRow wr.heap.size 5 1 r ((xs.drop a).take F).length (((xs.drop a).take F).map (Value.int .u8)) := (by simpa using o4); obtain ⟨ra, rc, hr4⟩ := (row_of_owns o4').form; rw [H3.out.2.2.2.1] at hr4; subst hr4; have H4 : Hid _ := And.intro B4 o4'; clear B4 o4 o4' g4)
            | (at_builtin; refine wpList_append_sl rfl (.tmp 30) (.tmp 38) rfl w.heap.size _ j P rfl ((owns_below H3.out.2.2.2.2.2.1 H4.out.1).alloc _) w4.heap.size ra F rc rfl (bk_cell (heap_alloc_new w4 _) 0) (by omega) (Nat.le_trans H2.out.2.2.1.size (Nat.le_trans H4.out.1.size (by simp))) ?_; intro v6 w6 o6 g6))
          have S6 := SOwns.push (L := L) (by rw [H2.out.2.2.2.2.2.2]; exact H3.out.2.2.2.2.2.1) H3.out.2.2.2.2.2.2.1 H3.out.2.2.2.2.2.2.2.1 H4.out.1 H4.out.2 g6 (by rw [H2.out.2.2.2.2.2.2]; exact o6) H2.out.2.2.1.size
          have B6 : Below w.heap.size w w6 := ((H2.out.2.2.1.trans (H4.out.1.mono H2.out.2.2.1.size)).alloc (H2.out.2.2.1.trans (H4.out.1.mono H2.out.2.2.1.size)).size _).grown g6 (Nat.le_trans H2.out.2.2.1.size (Nat.le_trans H4.out.1.size (by simp))) (fun t ht => (H3.out.2.2.2.2.2.1.lt t ht).1)
          have H6 : Hid _ := And.intro S6 B6
          clear S6 B6 o6 g6
          go_wp2
          go_roundg (16 - (j + 1))
          case measure => omega
          case rel => exact ⟨j + 1, q, L ++ [(xs.drop a).take F], by omega, rfl, by rw [List.length_append, H2.out.2.2.2.2.2.2]; rfl, hqn, by trivial, H6.out.1, H6.out.2, H3.out.1⟩
      · obtain rfl : j = 16 := by omega
        have er : spl cl 16 xs = L := by rw [hspl]; simp [spl]
        have H2 : Hid _ := And.intro er (And.intro ow bw)
        clear er ow bw hspl
        go_wp2
        go_ret
        exact ⟨_, rfl, by rw [H2.out.1]; exact H2.out.2.1, H2.out.2.2⟩
    · have er : spl cl 16 xs = L := by rw [hspl, spl_nil cl _ _ (by rw [List.length_drop, HH.out.2.1.len]; omega), List.append_nil]
      have H2 : Hid _ := And.intro er (And.intro ow bw)
      clear er ow bw hspl
      go_wp2
      go_ret
      exact ⟨_, rfl, by rw [H2.out.1]; exact H2.out.2.1, H2.out.2.2⟩
theorem splitI (v : Value) (cl : Int) (xs : List Int) (w : World) (ht : T3 w) (hrow : Row w .u8 v xs) (hB : Bytes xs) :
    Calls Tryd.prog 16 #[v, .int .i64 cl] w fun e w' => ∃ r, e = .returned r ∧ SOwns w' w.heap.size r (spl cl 16 xs) ∧ Below w.heap.size w w' := by
  obtain ⟨ao, cap, rfl, hlie⟩ := row_lies hrow
  by_cases h0 : xs.length = 0
  · rw [h0, spl_nil cl 16 xs h0]
    refine (splI_nil ao cap cl w).mono ?_
    rintro e w' ⟨rfl, rfl⟩
    exact ⟨_, rfl, SOwns.nil _ _, Below.refl _ _⟩
  · rcases hlie with h | ⟨b, off, rfl, hl⟩
    · exact absurd h h0
    · exact splI_core b off xs.length cap cl xs w ht hl hB (by omega)
end Go.Proofs.YtbbiinbjgognjaaDoor

namespace Go.Proofs.YtbbiinbjgognjaaDoor
open Go.RowKit
set_option linter.unusedVariables false

theorem splS_long (ao : Option Addr) (n cp : Nat) (cl : Int) (w : World) (h : 65536 < n) (hn : n ≤ 9223372036854775807) : Calls Tryd.prog 15 #[.slice ao n cp, .int .i64 cl] w fun e w' => ∃ r, e = .returned r ∧ SOwns w' w.heap.size r [] ∧ Below w.heap.size w w' := by
  have d : (65536 : Int) < (n : Int) := by omega
  go_enter Tryd.func15, Tryd.ntmps15
  go_wp2
  go_ret
  exact ⟨_, rfl, SOwns.lit0 w w.heap.size (Nat.le_refl _), (Below.refl _ _).alloc (Nat.le_refl _) _⟩
theorem splS_neg (ao : Option Addr) (n cp : Nat) (cl : Int) (w : World) (h : n ≤ 65536) (hc : cl < 0) : Calls Tryd.prog 15 #[.slice ao n cp, .int .i64 cl] w fun e w' => ∃ r, e = .returned r ∧ SOwns w' w.heap.size r [] ∧ Below w.heap.size w w' := by
  have d : decide ((65536 : Int) < (n : Int)) = false := decide_eq_false (by omega)
  go_enter Tryd.func15, Tryd.ntmps15
  go_wp2
  go_ret
  exact ⟨_, rfl, SOwns.lit0 w w.heap.size (Nat.le_refl _), (Below.refl _ _).alloc (Nat.le_refl _) _⟩
theorem splS_big (ao : Option Addr) (n cp : Nat) (cl : Int) (w : World) (h : n ≤ 65536) (hc : 8 < cl) : Calls Tryd.prog 15 #[.slice ao n cp, .int .i64 cl] w fun e w' => ∃ r, e = .returned r ∧ SOwns w' w.heap.size r [] ∧ Below w.heap.size w w' := by
  have d : decide ((65536 : Int) < (n : Int)) = false := decide_eq_false (by omega)
  have d1 : decide (cl < 0) = false := decide_eq_false (by omega)
  go_enter Tryd.func15, Tryd.ntmps15
  go_wp2
  go_ret
  exact ⟨_, rfl, SOwns.lit0 w w.heap.size (Nat.le_refl _), (Below.refl _ _).alloc (Nat.le_refl _) _⟩
theorem splS_nil (ao : Option Addr) (cp : Nat) (c : Nat) (w : World) (hc : c ≤ 8) : Calls Tryd.prog 15 #[.slice ao 0 cp, .int .i64 (c : Int)] w fun e w' => ∃ r, e = .returned r ∧ SOwns w' w.heap.size r [] ∧ Below w.heap.size w w' := by
  have d1 : decide ((c : Int) < 0) = false := decide_eq_false (by omega)
  have d2 : decide ((8 : Int) < (c : Int)) = false := decide_eq_false (by omega)
  go_enter Tryd.func15, Tryd.ntmps15
  go_wp2_with fail
  refine wp_loop_rounds 1 ?_
  rw [rounds_succ]
  go_wp2
  go_ret
  exact ⟨_, rfl, SOwns.lit0 w w.heap.size (Nat.le_refl _), (Below.refl _ _).alloc (Nat.le_refl _) _⟩
set_option maxRecDepth 20000 in
set_option maxHeartbeats 4000000 in
theorem splS_core (b off n cap c : Nat) (xs : List Int) (w : World) (hl : Lies w b off n cap xs) (hB : Bytes xs) (h0 : 0 < n) (hn : n ≤ 65536) (hc8 : c ≤ 8) :
    Calls Tryd.prog 15 #[.slice (some ⟨b, off, none⟩) n cap, .int .i64 (c : Int)] w fun e w' => ∃ r, e = .returned r ∧ SOwns w' w.heap.size r (spl c 16 xs) ∧ Below w.heap.size w w' := by
  have hcap : cap ≤ 9223372036854775807 := Nat.le_trans hl.most (by decide)
  have hfit : n ≤ cap := hl.fits
  have d0 : decide ((65536 : Int) < (n : Int)) = false := decide_eq_false (by omega)
  have d1 : decide ((c : Int) < 0) = false := decide_eq_false (by omega)
  have d2 : decide ((8 : Int) < (c : Int)) = false := decide_eq_false (by omega)
  have HH : Hid _ := And.intro hl (And.intro hB (And.intro hc8 h0))
  clear hl hB hc8 h0
  go_enter Tryd.func15, Tryd.ntmps15
  go_wp2_with fail
  clear d0 d1 d2
  go_loopg [0, 5] 16 (fun z v p wr => ∃ (j a N C : Nat) (L : List (List Int)) (ao : Option Addr), j ≤ 16 ∧ z = 16 - j ∧ L.length = j ∧ N + a = n ∧ C + a = cap ∧ v = .slice ao N C ∧ (0 < N → ao = some ⟨b, off + a, none⟩) ∧ SOwns wr w.heap.size p L ∧ Below w.heap.size w wr ∧ spl c 16 xs = L ++ spl c (16 - j) (xs.drop a))
  case atStart => exact ⟨0, 0, n, cap, [], _, by omega, by omega, rfl, rfl, rfl, rfl, fun _ => rfl, SOwns.lit0 w w.heap.size (Nat.le_refl _), (Below.refl _ _).alloc (Nat.le_refl _) _, by simp⟩
  case round =>
    obtain ⟨j, a, N, C, L, ao, hj, hz, hlen, hN, hC, rfl, hao, ow, bw, hspl⟩ := hrel
    obtain ⟨pa, pc, ep⟩ := ow.row.form
    rw [hlen] at ep
    subst ep
    by_cases hj16 : j < 16
    · by_cases hlt : 0 < N
      · have eao := hao hlt
        subst eao
        have hd := HH.out.1.below bw
        have hdr := hd.drop a (by omega)
        rw [show n - a = N by omega, show cap - a = C by omega] at hdr
        have CP := peekS (some ⟨b, off + a, none⟩) N C c (xs.drop a) wr (Or.inr ⟨b, off + a, rfl, hdr⟩) hdr.len (fun x hx => HH.out.2.1 x (List.mem_of_mem_drop hx)) (by omega) HH.out.2.2.1
        have H2 : Hid _ := And.intro CP (And.intro ow (And.intro bw (And.intro hspl (And.intro hdr (And.intro hlen (And.intro hN hC))))))
        have hCc : C ≤ 9223372036854775807 := by omega
        have hNC : N ≤ C := by omega
        have hN6 : N ≤ 65536 := by omega
        clear CP ow bw hspl hdr hlen hd hao hN hC
        go_wp2_with fail
        go_at_call 27
        refine H2.out.1.mono ?_
        rintro e w2 ⟨b2, ⟨cc, hc, rfl⟩ | ⟨K, vd, vs, vt, hc, rfl, hoK⟩⟩
        · have hcne : (cc != 0) = true := by simpa using pk_err hc
          have er : spl c 16 xs = L := by rw [H2.out.2.2.2.1, spl_err _ _ _ hc, List.append_nil]
          have H3 : Hid _ := And.intro er b2
          clear er b2 hc
          go_wp2
          go_ret
          refine ⟨_, rfl, ?_, (H2.out.2.2.1.trans (H3.out.2.mono H2.out.2.2.1.size)).alloc (H2.out.2.2.1.trans (H3.out.2.mono H2.out.2.2.1.size)).size _⟩
          rw [H3.out.1]
          exact H2.out.2.1.below (H3.out.2.alloc H3.out.2.size _)
        · obtain ⟨hf0, hf1⟩ := pk_fin hc
          rw [H2.out.2.2.2.2.1.len] at hf1
          obtain ⟨da, dp, ed⟩ := (row_of_owns hoK.o0).form
          obtain ⟨sa, sp, es⟩ := (row_of_owns hoK.o1).form
          obtain ⟨ta, tp, et⟩ := (row_of_owns hoK.o2).form
          dsimp only at ed es et
          subst ed es et
          obtain ⟨F, eF⟩ : ∃ F, F = K.fin := ⟨_, rfl⟩
          rw [← eF] at hf0 hf1
          have hFC : (F : Int) ≤ (C : Int) := by omega
          have hFN : (F : Int) ≤ (N : Int) := by omega
          obtain ⟨aq, hif⟩ : ∃ aq, (if C = F then some (⟨b, off + a, none⟩ : Addr) else some ⟨b, off + a + F, none⟩) = aq := ⟨_, rfl⟩
          have haq : 0 < N - F → aq = some ⟨b, off + (a + F), none⟩ := fun h => by rw [← hif, if_neg (by omega), Nat.add_assoc]
          have er : spl c 16 xs = (L ++ [(xs.drop a).take F]) ++ spl c (16 - (j + 1)) (xs.drop (a + F)) := by
            have e16 : 16 - j = (16 - (j + 1)) + 1 := by omega
            rw [H2.out.2.2.2.1, e16, spl_ok _ _ _ (by rw [H2.out.2.2.2.2.1.len]; omega) hc, ← eF, List.drop_drop]
            simp
          have rY : Row wr .u8 (.slice (some ⟨b, off + a, none⟩) F C) ((xs.drop a).take F) := by
            have := H2.out.2.2.2.2.1.row 0 F (by omega)
            rw [Nat.add_zero, Nat.sub_zero, List.drop_zero] at this
            exact this
          have lY : ((xs.drop a).take F).length = F := by rw [List.length_take, H2.out.2.2.2.2.1.len]; omega
          have AH : ∀ o : Obj, Below wr.heap.size wr (w2.alloc o) := fun o => b2.alloc b2.size o
          obtain ⟨P, ho, hp, hap⟩ := H2.out.2.1
          rw [H2.out.2.2.2.2.2.1] at ho
          have H3 : Hid _ := And.intro er (And.intro b2 (And.intro rY (And.intro lY (And.intro AH (And.intro ho (And.intro hp (And.intro hap haq)))))))
          rw [← eF]
          clear er b2 rY lY AH ho hp hap hc hoK eF haq
          go_wp2_with (first
            | (go_at_call 31; refine (copyS _ ((xs.drop a).take F) _ (H3.out.2.2.1.below (H3.out.2.2.2.2.1 _)) (by rw [H3.out.2.2.2.1]; omega)).mono ?_; rintro e w4 ⟨r, rfl, o4, b4⟩; have B4 : Below wr.heap.size wr w4 := (H3.out.2.2.2.2.1 _).trans (b4.mono (H3.out.2.2.2.2.1 _).size); have o4' := owns_mono o4 (H3.out.2.2.2.2.1 _).size; obtain ⟨ra, rc, hr4⟩ := (row_of_owns o4').form; rw [H3.out.2.2.2.1] at hr4; subst hr4; have H4 : Hid _ := And.intro B4 o4'; clear B4 o4 o4' b4)
            | (at_builtin; refine wpList_append_sl rfl (.tmp 40) (.tmp 45) rfl w.heap.size _ j P rfl ((owns_below H3.out.2.2.2.2.2.1 H4.out.1).alloc _) w4.heap.size ra F rc rfl (bk_cell (heap_alloc_new w4 _) 0) (by omega) (Nat.le_trans H2.out.2.2.1.size (Nat.le_trans H4.out.1.size (by simp))) ?_; intro v6 w6 o6 g6; have S6 := SOwns.push (L := L) (by rw [H2.out.2.2.2.2.2.1]; exact H3.out.2.2.2.2.2.1) H3.out.2.2.2.2.2.2.1 H3.out.2.2.2.2.2.2.2.1 H4.out.1 H4.out.2 g6 (by rw [H2.out.2.2.2.2.2.1]; exact o6) H2.out.2.2.1.size; have B6 : Below w.heap.size w w6 := ((H2.out.2.2.1.trans (H4.out.1.mono H2.out.2.2.1.size)).alloc (H2.out.2.2.1.trans (H4.out.1.mono H2.out.2.2.1.size)).size _).grown g6 (Nat.le_trans H2.out.2.2.1.size (Nat.le_trans H4.out.1.size (by simp))) (fun t ht => (H3.out.2.2.2.2.2.1.lt t ht).1); have H6 : Hid _ := And.intro S6 B6; clear S6 B6 o6 g6))
          go_roundg (16 - (j + 1))
          case measure => omega
          case rel => exact ⟨j + 1, a + F, N - F, C - F, L ++ [(xs.drop a).take F], aq, by omega, rfl, by rw [List.length_append, H2.out.2.2.2.2.2.1]; rfl, by have := H2.out.2.2.2.2.2.2.1; omega, by have := H2.out.2.2.2.2.2.2.2; omega, by trivial, H3.out.2.2.2.2.2.2.2.2, H6.out.1, H6.out.2, H3.out.1⟩
      · obtain rfl : N = 0 := by omega
        have er : spl c 16 xs = L := by rw [hspl, spl_nil _ _ _ (by rw [List.length_drop, HH.out.1.len]; omega), List.append_nil]
        have H2 : Hid _ := And.intro er (And.intro ow bw)
        clear er ow bw hspl
        go_wp2
        go_ret
        exact ⟨_, rfl, by rw [H2.out.1]; exact H2.out.2.1, H2.out.2.2⟩
    · obtain rfl : j = 16 := by omega
      have er : spl c 16 xs = L := by rw [hspl]; simp [spl]
      have H2 : Hid _ := And.intro er (And.intro ow bw)
      clear er ow bw hspl
      go_wp2
      go_ret
      exact ⟨_, rfl, by rw [H2.out.1]; exact H2.out.2.1, H2.out.2.2⟩
theorem splitS (v : Value) (cl : Int) (xs : List Int) (w : World) (hrow : Row w .u8 v xs) (hB : Bytes xs) (hm : xs.length ≤ 9223372036854775807) :
    Calls Tryd.prog 15 #[v, .int .i64 cl] w fun e w' => ∃ r, e = .returned r ∧ SOwns w' w.heap.size r (spl cl 16 xs) ∧ Below w.heap.size w w' := by
  obtain ⟨ao, cap, rfl, hlie⟩ := row_lies hrow
  by_cases h6 : 65536 < xs.length
  · rw [spl_err cl 16 xs (pk_longL xs cl h6)]
    exact splS_long ao _ cap cl w h6 hm
  by_cases hc0 : cl < 0
  · obtain ⟨c, hc⟩ := pk_badc xs cl (fun h => by omega)
    rw [spl_err cl 16 xs hc]
    exact splS_neg ao _ cap cl w (by omega) hc0
  by_cases hc8 : 8 < cl
  · obtain ⟨c, hc⟩ := pk_badc xs cl (fun h => by omega)
    rw [spl_err cl 16 xs hc]
    exact splS_big ao _ cap cl w (by omega) hc8
  obtain ⟨c, rfl⟩ : ∃ c : Nat, cl = (c : Int) := ⟨cl.toNat, by omega⟩
  by_cases h0 : xs.length = 0
  · rw [h0, spl_nil _ 16 xs h0]
    exact splS_nil ao cap c w (by omega)
  · rcases hlie with h | ⟨b, off, rfl, hl⟩
    · exact absurd h h0
    · exact splS_core b off xs.length cap c xs w hl hB (by omega) (by omega) (by omega)
end Go.Proofs.YtbbiinbjgognjaaDoor

namespace Go.Proofs.YtbbiinbjgognjaaDoor
open Go.RowKit
set_option linter.unusedVariables false

theorem SOwns.only {w w' : World} {base : Nat} {g : Option Nat} {v : Value} {L : List (List Int)} (ho : Only g w w') (h : SOwns w base v L) (hg : ∀ k, base ≤ k → some k ≠ g) : SOwns w' base v L := by
  obtain ⟨P, h1, h2, h3⟩ := h
  exact ⟨P, ho.owns h1 (fun k hk => hg k (h1.lt k hk).1), fun j hj => by obtain ⟨u, hu, hr⟩ := h2 j hj; exact ⟨u, hu, ho.owns hr (fun k hk => hg k (hr.lt k hk).1)⟩, h3⟩
theorem sumL_all (L : List (List Int)) : sumL L L.length = L.flatten.length := by unfold sumL; rw [List.take_length]
theorem getD_le (L : List (List Int)) (j : Nat) : (L.getD j []).length ≤ L.flatten.length := by
  by_cases h : j < L.length
  · have h1 := sumL_succ L j h
    have h2 := sumL_mono L (j + 1) h
    rw [sumL_all] at h2
    omega
  · simp [List.getD, h]
theorem split_huge (ao : Option Addr) (n cap : Nat) (cl : Int) (w : World) (h : 1048576 < n) (hm : n ≤ 9223372036854775807) :
    Calls Tryd.prog 4 #[.slice ao n cap, .int .i64 cl] w fun e w' => e = .returned (.bool true) ∧ Below w.heap.size w w' := by
  have hd : (1048576 : Int) < (n : Int) := by omega
  go_enter Tryd.func4, Tryd.ntmps4
  go_wp2
  go_ret
  exact ⟨rfl, Below.refl _ _⟩
set_option maxRecDepth 20000 in
set_option maxHeartbeats 4000000 in
theorem splitLaw (v : Value) (xs : List Int) (cl : Int) (L : List (List Int)) (w : World) (ht : T3 w) (hrow : Row w .u8 v xs) (hn : xs.length ≤ 1048576) (hL : L.length ≤ 16) (hsum : L.flatten.length ≤ 1048576)
    (hS : ∀ (w : World) (v : Value), Row w .u8 v xs → Calls Tryd.prog 15 #[v, .int .i64 cl] w fun e w' => ∃ r, e = .returned r ∧ SOwns w' w.heap.size r L ∧ Below w.heap.size w w')
    (hI : ∀ (w : World) (v : Value), T3 w → Row w .u8 v xs → Calls Tryd.prog 16 #[v, .int .i64 cl] w fun e w' => ∃ r, e = .returned r ∧ SOwns w' w.heap.size r L ∧ Below w.heap.size w w') :
    Calls Tryd.prog 4 #[v, .int .i64 cl] w fun e w' => e = .returned (.bool true) ∧ Below w.heap.size w w' := by
  obtain ⟨ao, cap, hv⟩ := hrow.form
  obtain ⟨n, en⟩ : ∃ n, n = xs.length := ⟨_, rfl⟩
  have tb : ∀ w : World, Row w .u8 v xs → Calls Tryd.prog 8 #[v] w fun e w' => ∃ r, e = .returned r ∧ w'.ownsRow w.heap.size 5 1 r xs.length (xs.map (Value.int .u8)) ∧ Below w.heap.size w w' := fun w h => toBytes v xs w h (by omega)
  obtain ⟨K, eK⟩ : ∃ K : Int, K = 1 + (xs.length : Int) := ⟨_, rfl⟩
  obtain ⟨M, eM⟩ : ∃ M : Int, M = 1 + (sumL L L.length : Int) := ⟨_, rfl⟩
  have hK : ¬ (K < 0) := by omega
  have hM : ¬ (M < 0) := by omega
  have hMM : (M != M) = false := by simp
  have hd : decide ((1048576 : Int) < (n : Int)) = false := decide_eq_false (by omega)
  have hs2 : sumL L L.length ≤ 1048576 := by rw [sumL_all]; exact hsum
  have hgd : ∀ j, (L.getD j []).length ≤ 1048576 := fun j => Nat.le_trans (getD_le L j) hsum
  rw [hv] at tb hrow ⊢
  rw [← en] at tb hrow ⊢
  have HH : Hid _ := And.intro tb (And.intro hrow (And.intro hS (And.intro hI (And.intro ht (And.intro (Nat.le_trans hL (by decide) : L.length ≤ 1048576) (And.intro hs2 (And.intro hgd (And.intro en hn))))))))
  have EK : Hid _ := And.intro eK eM
  clear tb hrow hS hI ht hL hs2 hgd en hn hsum hv eK eM
  go_enter Tryd.func4, Tryd.ntmps4
  go_wp2_with fail
  go_at_call 8
  refine (HH.out.1 _ HH.out.2.1).mono ?_
  rintro e w1 ⟨r1, rfl, o1, b1⟩
  have H1 : Hid _ := And.intro b1 (row_of_owns o1)
  clear b1 o1
  go_wp2_with fail
  go_at_call 15
  refine (HH.out.2.2.1 _ _ H1.out.2).mono ?_
  rintro e w2 ⟨rS, rfl, oS, b2⟩
  have H2 : Hid _ := And.intro (H1.out.1.trans (b2.mono H1.out.1.size)) oS.row
  clear b2 oS
  go_wp2_with fail
  go_at_call 8
  refine (HH.out.1 _ (HH.out.2.1.below H2.out.1)).mono ?_
  rintro e w3 ⟨x0, rfl, oX, b3⟩
  have H3 : Hid _ := And.intro b3 oX
  clear b3 oX
  go_wp2_with fail
  go_at_call 16
  refine (HH.out.2.2.2.1 _ _ (HH.out.2.2.2.2.1.below (H2.out.1.trans (H3.out.1.mono H2.out.1.size)) HH.out.2.2.2.2.1.lt) (row_of_owns H3.out.2)).mono ?_
  rintro e w4 ⟨g0, rfl, oG, b4⟩
  have H4 : Hid _ := And.intro (H3.out.1.trans (b4.mono H3.out.1.size)) (And.intro oG b4)
  clear b4 oG
  go_wp2_with fail
  go_at_call 17
  refine (eqSS_same _ _ L w4 H4.out.2.1.row (H2.out.2.below H4.out.1) HH.out.2.2.2.2.2.1 HH.out.2.2.2.2.2.2.2.1).mono ?_
  rintro e w5 ⟨rfl, b5⟩
  have H5 : Hid _ := And.intro (H4.out.1.trans (b5.mono H4.out.1.size)) (And.intro (H4.out.2.1.below b5) (H4.out.2.2.trans (b5.mono H4.out.2.2.size)))
  clear b5
  go_wp2_with fail
  go_at_call 8
  refine (HH.out.1 _ (HH.out.2.1.below (H2.out.1.trans (H5.out.1.mono H2.out.1.size)))).mono ?_
  rintro e w6 ⟨r6, rfl, o6, b6⟩
  have H6 : Hid _ := And.intro (H5.out.1.trans (b6.mono H5.out.1.size)) (And.intro (H5.out.2.1.below b6) (And.intro (owns_below H3.out.2 (H5.out.2.2.trans (b6.mono H5.out.2.2.size))) (row_of_owns o6)))
  clear b6 o6
  go_wp2_with fail
  go_at_call 11
  refine (eqBytes_same _ _ xs w6 (row_of_owns H6.out.2.2.1) H6.out.2.2.2 (by have := HH.out.2.2.2.2.2.2.2.2.2; omega)).mono ?_
  rintro e w7 ⟨rfl, m7, hw7⟩
  have b7 : Below w6.heap.size w6 w7 := by rw [hw7]; exact below_drewN (Below.refl _ _) m7
  clear hw7
  have H7 : Hid _ := And.intro (H6.out.1.trans (b7.mono H6.out.1.size)) (And.intro (H6.out.2.1.below b7) (owns_below H6.out.2.2.1 b7))
  clear b7
  go_wp2_with fail
  go_at_call 12
  refine (markBytes 1 xs.length w2.heap.size _ xs w7 (by have := HH.out.2.2.2.2.2.2.2.2.2; omega) (by decide) (by decide) (by rw [← HH.out.2.2.2.2.2.2.2.2.1]; exact H7.out.2.2)).mono ?_
  rintro e w8 ⟨rfl, oX8, b8, z8, n8⟩
  have G8 := SOwns.only n8 H7.out.2.1 (fun k hk e => by have := (H3.out.2.lt k e.symm).2; omega)
  have H8 : Hid _ := And.intro (H7.out.1.trans b8) G8
  clear oX8 b8 z8 n8 G8
  rw [← EK.out.1]
  go_wp2_with fail
  go_at_call 17
  refine (eqSS_same _ _ L w8 H8.out.2.row (H2.out.2.below H8.out.1) HH.out.2.2.2.2.2.1 HH.out.2.2.2.2.2.2.2.1).mono ?_
  rintro e w9 ⟨rfl, b9⟩
  have H9 : Hid _ := And.intro (H8.out.1.trans (b9.mono H8.out.1.size)) (H8.out.2.below b9)
  clear b9
  go_wp2_with fail
  go_at_call 18
  refine (markSS 1 w3.heap.size L _ w9 H9.out.2 HH.out.2.2.2.2.2.1 HH.out.2.2.2.2.2.2.1 (by decide) (by decide)).mono ?_
  rintro e w10 ⟨rfl, o10, b10⟩
  have H10 : Hid _ := And.intro (H9.out.1.trans (b10.mono H3.out.1.size)) o10
  clear o10 b10
  rw [← EK.out.2]
  go_wp2_with fail
  go_at_call 19
  refine (heldSS 1 L _ w10 H10.out.2.row HH.out.2.2.2.2.2.1 HH.out.2.2.2.2.2.2.1 (by decide) (by decide)).mono ?_
  rintro e wh ⟨rfl, hwh⟩
  subst wh
  rw [← EK.out.2]
  go_wp2_with fail
  go_at_call 8
  refine (HH.out.1 _ (HH.out.2.1.below (H2.out.1.trans (H10.out.1.mono H2.out.1.size)))).mono ?_
  rintro e w11 ⟨r11, rfl, o11, b11⟩
  have H11 : Hid _ := And.intro (H10.out.1.trans (b11.mono H10.out.1.size)) (And.intro (H10.out.2.below b11) (row_of_owns o11))
  clear o11 b11
  go_wp2_with fail
  go_at_call 16
  refine (HH.out.2.2.2.1 _ _ (HH.out.2.2.2.2.1.below (H2.out.1.trans (H11.out.1.mono H2.out.1.size)) HH.out.2.2.2.2.1.lt) H11.out.2.2).mono ?_
  rintro e w12 ⟨h0, rfl, oH, b12⟩
  have H12 : Hid _ := And.intro (H11.out.1.trans (b12.mono H11.out.1.size)) (And.intro (H11.out.2.1.below b12) oH.row)
  clear oH b12
  go_wp2_with fail
  go_at_call 17
  refine (eqSS_same _ _ L w12 H12.out.2.2 (H2.out.2.below H12.out.1) HH.out.2.2.2.2.2.1 HH.out.2.2.2.2.2.2.2.1).mono ?_
  rintro e w13 ⟨rfl, b13⟩
  have H13 : Hid _ := And.intro (H12.out.1.trans (b13.mono H12.out.1.size)) (H12.out.2.1.below b13)
  clear b13
  go_wp2_with fail
  go_at_call 19
  refine (heldSS 1 L _ w13 H13.out.2.row HH.out.2.2.2.2.2.1 HH.out.2.2.2.2.2.2.1 (by decide) (by decide)).mono ?_
  rintro e wh ⟨rfl, hwh⟩
  subst wh
  rw [← EK.out.2]
  go_wp2
  go_ret
  exact ⟨rfl, H2.out.1.trans (H13.out.1.mono H2.out.1.size)⟩
theorem fnExactSplitDatagram_walk (v : Value) (xs : List Int) (a : Int) (hl : xs.length ≤ maxLen) (hwf : ∀ x ∈ xs, (Lit.int .u8 x).wf = true) (wfa : (Lit.int .i64 a).wf = true) (w : World) (hrow : Row w .u8 v xs) (ht : T3 w) :
    Calls Tryd.prog 4 #[v, .int .i64 a] w fun e w' => e = .returned (.bool true) ∧ Below w.heap.size w w' := by
  have hm : xs.length ≤ 9223372036854775807 := by unfold maxLen at hl; omega
  have hB := bytes_of_wf hwf
  by_cases h20 : 1048576 < xs.length
  · obtain ⟨ao, cap, rfl⟩ := hrow.form
    exact split_huge ao _ cap a w h20 hm
  · exact splitLaw v xs a (spl a 16 xs) w ht hrow (by omega) (spl_length a 16 xs) (Nat.le_trans (spl_sum a 16 xs) (by omega)) (fun w v h => splitS v a xs w h hB hm) (fun w v ht h => splitI v a xs w ht h hB)
end Go.Proofs.YtbbiinbjgognjaaDoor

namespace Go.Proofs.YtbbiinbjgognjaaDoor.fnExactSplitDatagram
open Go.ChangeShapes Go.WideShapes Go.ChangeAt Go.RowKit
set_option linter.unusedVariables false

theorem own : ownKnob Tryd.prog.godebug = none := by kernel_rfl
theorem laidOut : laidOutB Tryd.prog = true := by kernel_rfl
theorem cells_b : Tryd.prog.cellsOf 5 = 1 := by kernel_rfl
theorem gTab : Tryd.prog.globalNamed "loop.example/g00012/impl.varFormLengths" = some 2 := by kernel_rfl
theorem gTabType : (Tryd.prog.globals[2]?).map (·.type) = some 118 := by kernel_rfl
theorem gLong : Tryd.prog.globalNamed "loop.example/g00012/impl.longForms" = some 1 := by kernel_rfl
theorem gLongType : (Tryd.prog.globals[1]?).map (·.type) = some 118 := by kernel_rfl
theorem cellsArr : Tryd.prog.cellsOf 118 = 4 := by kernel_rfl
theorem cellsInt : Tryd.prog.cellsOf 3 = 1 := by kernel_rfl
theorem et : Tryd.prog.globalNamed "errors.errorType" = some 0 := by kernel_rfl
theorem rt : (Tryd.prog.cutTypes.find? (·.1 == "internal/reflectlite.rtype")).map (·.2) = some 120 := by kernel_rfl
theorem oneRow : ((List.range (Tryd.prog.types.size)).filter fun t => Tryd.prog.rowNamed t [101, 114, 114, 111, 114]) = [48] := by kernel_rfl
theorem laidMet_tail {P : Program} {W : World} {x : String × DataW Unit} {l : List (String × DataW Unit)} (h : laidMet P (x :: l) W) : laidMet P l W := by
  obtain ⟨n, d⟩ := x
  obtain ⟨ps, ⟨g', t', cs, fuel, p, q, hg', ht', hvar, hd, hr, hps⟩, hnd, hall⟩ := h
  subst hps
  exact ⟨q, hr, (List.nodup_append.1 hnd).2.1, fun b off hm => hall b off (List.mem_append_right _ hm)⟩
theorem table {W : World} (h : laidMetH Tryd.prog Rows.fnExactSplitDatagramRow.laid W) : T3 W := by
  have h' : laidMet Tryd.prog [("loop.example/g00012/impl.varFormLengths", Lib.tabData .i64 [1, 2, 4, 8]), ("loop.example/g00012/impl.longForms", Lib.tabData .i64 [1, 0, 2, 3])] W ∧ handlesMet Tryd.prog [("errors.errorType", Rows.laid_errors_errorType)] W := h
  have t : Lib.TabIs Tryd.prog W "loop.example/g00012/impl.varFormLengths" .i64 [1, 2, 4, 8] :=
    Lib.tabIs_of_head gTab gTabType Tryd.underlying118 Tryd.underlying3 cellsInt cellsArr h'.1
  have t2 : Lib.TabIs Tryd.prog W "loop.example/g00012/impl.longForms" .i64 [1, 0, 2, 3] :=
    Lib.tabIs_of_head gLong gLongType Tryd.underlying118 Tryd.underlying3 cellsInt cellsArr (laidMet_tail h'.1)
  refine ⟨⟨t.cell gTab 0 (by decide), t.cell gTab 1 (by decide), t.cell gTab 2 (by decide), t.cell gTab 3 (by decide)⟩, ⟨t2.cell gLong 0 (by decide), t2.cell gLong 1 (by decide), t2.cell gLong 2 (by decide), t2.cell gLong 3 (by decide)⟩, ?_⟩
  obtain ⟨name, u, ty, e1, e2, e3, e4, e5⟩ := h'.2 _ (List.mem_singleton.2 rfl)
  have en : name = [101, 114, 114, 111, 114] := (Option.some.inj e1).symm
  subst en
  obtain rfl := Option.some.inj (rt.symm.trans e2)
  have hm : ty ∈ (List.range (Tryd.prog.types.size)).filter fun t => Tryd.prog.rowNamed t [101, 114, 114, 111, 114] := List.mem_filter.2 ⟨List.mem_range.2 e3, e4⟩
  rw [oneRow] at hm
  obtain rfl := List.mem_singleton.1 hm
  have hh : typeHandle Tryd.prog 48 = .pointer (some ⟨3, 48, none⟩) := by kernel_rfl
  rw [hh] at e5
  unfold errT
  simpa using World.var?_cell et e5 0
theorem trodVars_two {H : Type} {enc : TypeId × Value → H} {P : Program} {w : World} {spare : Nat → Bool} {n1 n2 : String} {gs : List (DataW H)} {ps : List MemPlace} (h : DataW.TrodVars enc P w spare [n1, n2] gs ps) : ∃ d1 d2, gs = [d1, d2] := by
  cases gs with
  | nil => simp [DataW.TrodVars] at h
  | cons d ds =>
    cases ds with
    | nil => simp [DataW.TrodVars] at h
    | cons d2 ds2 =>
      cases ds2 with
      | nil => exact ⟨d, d2, rfl⟩
      | cons d3 ds3 => simp [DataW.TrodVars] at h

set_option maxRecDepth 20000 in
theorem contract (H : Type) (enc : TypeId × Value → H) (W : World) (base : Nat) (args : Array Value) (ds gs : List (DataW H)) (before : List MemPlace)
    (hval : ∀ (j : Nat) t v, Tryd.f4.params[j]? = some t → args[j]? = some v → Value.okWide Tryd.prog W .any base t v)
    (hW : DataW.Whole enc Tryd.prog Tryd.f4.params.toList Rows.fnExactSplitDatagramSpec.vars false W args.toList ds gs before) (hL : laidMetH Tryd.prog Rows.fnExactSplitDatagramRow.laid W) :
    Calls Tryd.prog 4 args W fun e W' => ∃ v, e = .returned v ∧ Rows.fnExactSplitDatagramSpec.post enc Tryd.prog Tryd.f4 false true false false W args v W' := by
  have hW' := hW
  obtain ⟨p, q, hA0, hV, rfl, hfz, hnd⟩ := hW
  have hA : DataW.TrodAll enc Tryd.prog W 0 (fun _ => true) true Tryd.f4.params.toList args.toList ds p := hA0
  rw [Tryd.params4] at hA hval
  obtain ⟨v0, vs0, d0, ds0, p0, q0, hargs, rfl, rfl, h0, r0⟩ := trodAll_cons hA
  obtain ⟨v1, vs1, d1, ds1, p1, q1, rfl, rfl, rfl, h1, r1⟩ := trodAll_cons r0
  obtain ⟨rfl, rfl, rfl⟩ := trodAll_nil r1
  obtain rfl : args = #[v0, v1] := by cases args; simp_all
  obtain ⟨g1, g2, rfl⟩ := trodVars_two hV
  obtain ⟨xs0, row0, len0, wf0⟩ := open_row Tryd.underlying22 Tryd.underlying5 cells_b (hval 0 22 v0 rfl rfl) h0
  obtain ⟨a1, rfl, rfl, rfl, w1⟩ := open_int Tryd.underlying3 (hval 1 3 v1 rfl rfl) h1
  refine (fnExactSplitDatagram_walk v0 xs0 a1 len0 wf0 w1 W row0 (table hL)).mono fun e W' ⟨he, hb⟩ => ?_
  subst he
  exact ⟨_, rfl, law_post laidOut (by kernel_rfl) (by kernel_rfl) (by kernel_rfl) Tryd.underlying4 hW' rfl hb⟩

theorem laid_met (os : Os) : laidMetH Tryd.prog Rows.fnExactSplitDatagramRow.laid (({ (World.holding Tryd.prog os ⟨#[], #[], []⟩) with heap := (((World.holding Tryd.prog os ⟨#[], #[], []⟩).heap.modify 0 fun | .cells _ t frozen => .cells #[.iface 120 (.agg #[.pointer (some ⟨3, 48, none⟩)])] t frozen | o => o).modify 1 fun | .cells _ t frozen => .cells #[.int .i64 1, .int .i64 0, .int .i64 2, .int .i64 3] t frozen | o => o).modify 2 fun | .cells _ t frozen => .cells #[.int .i64 1, .int .i64 2, .int .i64 4, .int .i64 8] t frozen | o => o } : World).forCall (fun _ _ => 0) ⟨#[], #[.slice none 0 0, .int .i64 0], []⟩).memory :=
  laidMetH_of_parts (laidMet_of_run' 8 (by kernel_rfl) (by kernel_rfl)) (by kernel_rfl)
theorem reads (os : Os) {H : Type} (enc : TypeId × Value → H) : ∃ places, DataW.whole enc Tryd.prog (({ (World.holding Tryd.prog os ⟨#[], #[], []⟩) with heap := (((World.holding Tryd.prog os ⟨#[], #[], []⟩).heap.modify 0 fun | .cells _ t frozen => .cells #[.iface 120 (.agg #[.pointer (some ⟨3, 48, none⟩)])] t frozen | o => o).modify 1 fun | .cells _ t frozen => .cells #[.int .i64 1, .int .i64 0, .int .i64 2, .int .i64 3] t frozen | o => o).modify 2 fun | .cells _ t frozen => .cells #[.int .i64 1, .int .i64 2, .int .i64 4, .int .i64 8] t frozen | o => o } : World).forCall (fun _ _ => 0) ⟨#[], #[.slice none 0 0, .int .i64 0], []⟩).memory Tryd.f4.params.toList Rows.fnExactSplitDatagramSpec.vars false #[(.slice none 0 0 : Value), .int .i64 0].toList 8 = some ([.nil, .lit (.int .i64 0)], [.agg [.lit (.int .i64 1), .lit (.int .i64 0), .lit (.int .i64 2), .lit (.int .i64 3)], .agg [.lit (.int .i64 1), .lit (.int .i64 2), .lit (.int .i64 4), .lit (.int .i64 8)]], places) :=
  ⟨[.cell 1 0, .cell 1 1, .cell 1 2, .cell 1 3, .cell 2 0, .cell 2 1, .cell 2 2, .cell 2 3], by kernel_rfl⟩

set_option maxRecDepth 100000 in
theorem lifted (os : Os) (started : os.Started) (H : Type) (enc : TypeId × Value → H) (F : Stop.Interp) :
    ReturnsInHanded {} Tryd.checked os 4 .any ((OpenSpec.ofChange Rows.fnExactSplitDatagramSpec).preRow enc Tryd.prog Tryd.f4 Rows.fnExactSplitDatagramRow.domain false Rows.fnExactSplitDatagramRow.laid) (((OpenSpec.ofChange Rows.fnExactSplitDatagramSpec).at F).post enc Tryd.prog Tryd.f4 false true false false) := by
  obtain ⟨places, hx⟩ := reads os enc
  refine returnsInHanded_of_row (C := Tryd.checked) (s := OpenSpec.ofChange Rows.fnExactSplitDatagramSpec) own started (by kernel_rfl) Tryd.func4
    (witness_row_at (enc := enc) (C := Tryd.checked) false ({ (World.holding Tryd.prog os ⟨#[], #[], []⟩) with heap := (((World.holding Tryd.prog os ⟨#[], #[], []⟩).heap.modify 0 fun | .cells _ t frozen => .cells #[.iface 120 (.agg #[.pointer (some ⟨3, 48, none⟩)])] t frozen | o => o).modify 1 fun | .cells _ t frozen => .cells #[.int .i64 1, .int .i64 0, .int .i64 2, .int .i64 3] t frozen | o => o).modify 2 fun | .cells _ t frozen => .cells #[.int .i64 1, .int .i64 2, .int .i64 4, .int .i64 8] t frozen | o => o } : World) #[.slice none 0 0, .int .i64 0] rfl (by kernel_rfl) (by kernel_rfl) (by kernel_rfl)
      (OpenSpec.preRow_of_cond 8 hx (by kernel_rfl) (fun k hk => by cases hk) (by kernel_rfl) (laid_met os))) ?_
  intro W base args ds gs before hval hW _ _ _ hL _ _
  exact contract H enc W base args ds gs before hval hW hL

theorem said : Rows.FnExactSplitDatagramSaid :=
  OpenClaim.holds_of_cond 4 Tryd.f4 rfl rfl rfl rfl rfl rfl rfl ⟨rfl, rfl, rfl, rfl, rfl⟩ rfl rfl rfl rfl rfl (by kernel_rfl) Tryd.func4 (by kernel_rfl)
    (of_decide_eq_true (by kernel_rfl)) (by unfold Func.isWrapper; first | (rw [if_pos (by decide +kernel)]; kernel_rfl) | (rw [if_neg (by decide +kernel)]; exact ⟨rfl, rfl⟩))
    (fun os started H enc _ F => by rw [OpenClaim.pre_eq_preRow]; exact lifted os started H enc F)

theorem plain (f : FuncId) (fn : Func) (hf : Tryd.pinned.checked.prog.funcNamed "loop.example/g00012/laws.FnExactSplitDatagram" = some f) (hfn : Tryd.pinned.checked.prog.funcs[f]? = some fn) :
    true = Tryd.pinned.checked.prog.looks [] ∧ ∀ (j : Nat) t, fn.params[j]? = some t → Tryd.pinned.checked.prog.wantsStandIn t = false := by
  obtain rfl : f = 4 := Option.some.inj ((show Tryd.prog.funcNamed "loop.example/g00012/laws.FnExactSplitDatagram" = some 4 by kernel_rfl).symm.trans hf) |>.symm
  obtain rfl : fn = Tryd.f4 := (Option.some.inj (Tryd.func4.symm.trans hfn)).symm
  refine ⟨by kernel_rfl, fun j t ht => ?_⟩
  rw [Tryd.params4] at ht
  have hm : t ∈ [22, 3] := by simpa using Array.mem_of_getElem? ht
  have hall : ([22, 3].all fun u => !Tryd.prog.wantsStandIn u) = true := by kernel_rfl
  exact (show Tryd.prog.wantsStandIn t = false by simpa using List.all_eq_true.1 hall t hm)

end Go.Proofs.YtbbiinbjgognjaaDoor.fnExactSplitDatagram

namespace Go.Proofs.YtbbiinbjgognjaaDoor
theorem fnExactSplitDatagram_holds : Rows.FnExactSplitDatagramCardSaid :=
  Claim7.holds_tied_plain_at .later [] _ _ _ _ fnExactSplitDatagram.said (fun _ h => by cases h) (by kernel_rfl) (fun _ h => by cases h) fnExactSplitDatagram_row_tie rfl ⟨rfl, rfl⟩ (by kernel_rfl) rfl fnExactSplitDatagram.plain (by kernel_rfl)
#print axioms fnExactSplitDatagram_holds
end Go.Proofs.YtbbiinbjgognjaaDoor
