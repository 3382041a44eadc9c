import Derived.Test.YteggfkekgdlecaaGreatDoorHoS
import Derived.Test.YteggfkekgdlecaaGreatDoorAg_R
import Derived.Test.YteggfkekgdlecaaGreatDoorDigits
import Derived.Test.YteggfkekgdlecaaGreatDoorAppRow
import Derived.Lib.ConvBytes
import Derived.Test.YteggfkekgdlecaaGreatDoorVals
import Derived.BigRegion
import Derived.Test.YteggfkekgdlecaaGreatDoorPartsB
import Derived.Laws.Rows
import Derived.Deep.RegionWith
import Derived.Deep.CutRange
import Derived.Laws.IdiomStrings
import Derived.ArgAppend
import Derived.Test.YteggfkekgdlecaaGreatDoorMem
import Derived.Test.YteggfkekgdlecaaGreatDoorStrB
import Derived.Test.YteggfkekgdlecaaGreatDoorStr
import Derived.Test.YteggfkekgdlecaaGreatDoorHelP
import Derived.Test.YteggfkekgdlecaaGreatDoorMarkBytes
import Derived.Test.YteggfkekgdlecaaGreatDoorMarkPar
import Derived.Test.YteggfkekgdlecaaGreatDoorBlocks
import Derived.Test.YteggfkekgdlecaaGreatDoorEqBytes
import Derived.Test.YteggfkekgdlecaaGreatDoorAg_P
import Derived.Deep.RegionLaw
import Derived.Lib.MinMax
import Derived.Test.YteggfkekgdlecaaGreatDoorBook
import Derived.Test.YteggfkekgdlecaaGreatDoorChV
import Derived.Deep.LoopGhost
import Derived.BigQuiet
import Derived.OrdersHeld
import Derived.RegionTactic
import Derived.Laws.CopyOwn
namespace Go.Proofs.YteggfkekgdlecaaGreatDoor
open Go.RowKit
set_option linter.unusedVariables false
set_option linter.unusedSimpArgs false

/-- A text's bytes. -/
def txB (s : ByteArray) : List Int := s.data.toList.map fun b => (b.toNat : Int)
theorem txB_length (s : ByteArray) : (txB s).length = s.size := by unfold txB; rw [List.length_map, Array.length_toList]; rfl
theorem txB_bytes (s : ByteArray) : Bytes (txB s) := by
  intro x hx
  obtain ⟨b, _, rfl⟩ := List.mem_map.1 hx
  have := b.toNat_lt
  omega
/-- '[]byte(s)'. -/
theorem convSB (w : World) (s : ByteArray) (hs : s.size ≤ 4096) : ∃ C W, (convert 9 22 (.string s)).run Tryz.prog w = .ok (.slice (some ⟨w.heap.size, 0, none⟩) s.size C) W ∧ Row W .u8 (.slice (some ⟨w.heap.size, 0, none⟩) s.size C) (txB s) ∧ Below w.heap.size w W ∧ w.heap.size < W.heap.size := by
  refine ⟨_, _, Lib.run_convert_string_bytes w 9 22 5 s Tryz.underlying9 Tryz.underlying22 Tryz.underlying5, ?_, ⟨rfl, rfl, rfl, by rw [Lib.bytesWorld_size]; omega, fun k hk => Lib.bytesWorld_at_old w _ s k hk⟩, by rw [Lib.bytesWorld_size]; omega⟩
  refine Or.inr ⟨w.heap.size, 0, _, by rw [txB_length], by rw [Lib.bytesWorld_size]; omega, ⟨by rw [txB_length]; exact grownCap_ge w s.size 0 5, grownCap_le_maxLen w s.size 0 5 (by unfold maxLen; omega)⟩, fun j hj => ?_⟩
  rw [txB_length] at hj
  rw [Nat.zero_add, Lib.bytesWorld_cell w _ s j hj]
  have hd : j < s.data.toList.length := by rw [Array.length_toList]; exact hj
  simp only [txB, List.getD, List.getElem?_map, List.getElem?_eq_getElem hd, Option.map_some, Option.getD_some]
set_option maxHeartbeats 400000 in
theorem copyA (v : Value) (xs : List Int) (w : World) (hr : Row w .u8 v xs) (hl : xs.length ≤ 1048576) :
    Calls Tryz.prog 45 #[v] w fun e w' => ∃ r, e = .returned r ∧ w'.ownsRow w.heap.size 5 1 r xs.length (xs.map (Value.int .u8)) ∧ Below w.heap.size w w' := by
  have ba : Below w.heap.size w (w.alloc (.cells #[] 5)) := (Below.refl _ _).alloc (Nat.le_refl _) _
  have HN : Hid _ := And.intro (hr.below ba) (And.intro ba hl)
  clear hr ba hl
  go_enter Tryz.func45, Tryz.ntmps45
  go_wp2_with (at_builtin; refine wpList_append_row rfl _ _ rfl w.heap.size (.slice (some ⟨w.heap.size, 0, none⟩) 0 0) 0 [] rfl (World.ownsRow_lit w #[] 0 (Nat.le_refl _) (by decide) rfl) v xs rfl HN.out.1 (by have := HN.out.2.2; omega) (by simp) ?_; intro v' w2 hown2 hgrow)
  have R : w2.ownsRow w.heap.size 5 1 v' xs.length (xs.map (Value.int .u8)) := by simpa using hown2
  have B : Below w.heap.size w w2 := HN.out.2.1.grown hgrow (by simp) (by intro k hk; simp [Value.ownBlock] at hk; omega)
  have HR : Hid _ := And.intro R B
  clear R B hown2 hgrow
  go_wp2
  go_ret
  exact ⟨_, rfl, HR.out.1, HR.out.2⟩
/-- The bytes of a hello. -/
def vsA (V : List Int) (k : Nat) : List Int := ((V.take k).map (fun v => be v 4)).flatten
def nmA (L : List ByteArray) (k : Nat) : List Int := ((L.take k).map (fun s => putv (s.size : Int) ++ txB s)).flatten
def heV (h : HE) : List Int := if h.kd = 1 then (h.vers.length : Int) :: vsA h.vers h.vers.length else be h.vr 4
def heM (h : HE) : List Int := h.rnd ++ heV h ++ (h.nms.length : Int) :: nmA h.nms h.nms.length
def heW (h : HE) : List Int := heM h ++ parB h.par (decide (h.kd = 2))
def heB (h : HE) : List Int := h.kd :: (be ((heW h).length : Int) 2 ++ heW h)
theorem vsA_succ (V : List Int) (k : Nat) (hk : k < V.length) : vsA V (k + 1) = vsA V k ++ be (V.getD k 0) 4 := by
  unfold vsA
  rw [List.take_add_one, List.map_append, List.flatten_append]
  simp [List.getD, List.getElem?_eq_getElem hk]
theorem nmA_succ (L : List ByteArray) (k : Nat) (hk : k < L.length) : nmA L (k + 1) = nmA L k ++ (putv ((L.getD k ByteArray.empty).size : Int) ++ txB (L.getD k ByteArray.empty)) := by
  unfold nmA
  rw [List.take_add_one, List.map_append, List.flatten_append]
  simp [List.getD, List.getElem?_eq_getElem hk]
theorem vsA_len (V : List Int) : ∀ k, k ≤ V.length → (vsA V k).length = 4 * k
  | 0, _ => rfl
  | k + 1, hk => by rw [vsA_succ V k (by omega), List.length_append, vsA_len V k (by omega), be_length]; omega
theorem nmA_len (L : List ByteArray) (h : ∀ i, i < L.length → (L.getD i ByteArray.empty).size ≤ 16) : ∀ k, k ≤ L.length → (nmA L k).length ≤ 24 * k
  | 0, _ => Nat.le_refl _
  | k + 1, hk => by
    have h1 := nmA_len L h k (by omega)
    have h2 := h k (by omega)
    have h3 := putv_le ((L.getD k ByteArray.empty).size : Int) (by omega) (by omega)
    rw [nmA_succ L k (by omega), List.length_append, List.length_append, txB_length]
    omega
theorem heOK_len (h : HE) (ok : heOK h) : (heM h).length ≤ 200 ∧ (heW h).length ≤ 600 ∧ h.nms.length ≤ 4 ∧ h.vers.length ≤ 8 ∧ (∀ i, i < h.nms.length → (h.nms.getD i ByteArray.empty).size ≤ 16) := by
  obtain ⟨h16, hc⟩ := ok
  have hn : h.nms.length ≤ 4 ∧ (∀ i, i < h.nms.length → (h.nms.getD i ByteArray.empty).size ≤ 16) ∧ h.vers.length ≤ 8 ∧ pok h.par (decide (h.kd = 2)) = true := by
    rcases hc with ⟨e, q⟩ | ⟨e, q⟩
    · exact ⟨by have := q.2.2.1.1.2; omega, fun i hi => (q.2.2.1.2 i hi).1.2, by have := q.2.1; omega, by rw [decide_eq_true e]; exact q.2.2.2⟩
    · exact ⟨q.2.2.1.1.2, fun i hi => (q.2.2.1.2 i hi).1.2, q.2.1.1.2, by rw [decide_eq_false (by omega)]; exact q.2.2.2⟩
  have h1 := nmA_len h.nms hn.2.1 h.nms.length (Nat.le_refl _)
  have h2 := vsA_len h.vers h.vers.length (Nat.le_refl _)
  have h3 : (heV h).length ≤ 33 := by
    unfold heV
    split
    · simp only [List.length_cons]; omega
    · rw [be_length]; omega
  have h4 := parB_le h.par (decide (h.kd = 2)) hn.2.2.2
  have h5 : (heM h).length ≤ 200 := by
    unfold heM
    simp only [List.length_append, List.length_cons]
    omega
  refine ⟨h5, ?_, hn.1, hn.2.2.1, hn.2.1⟩
  unfold heW
  rw [List.length_append]
  omega
end Go.Proofs.YteggfkekgdlecaaGreatDoor

namespace Go.Proofs.YteggfkekgdlecaaGreatDoor
open Go.RowKit
set_option linter.unusedVariables false

/-- 32 bits turned left. -/
def rot7 (x : Int) : Int := bits .or .u32 (x * 128 % 4294967296) (x / 33554432)
def rot13 (x : Int) : Int := bits .or .u32 (x * 8192 % 4294967296) (x / 524288)
def rot17 (x : Int) : Int := bits .or .u32 (x * 131072 % 4294967296) (x / 32768)
/-- A number of 32 bits. -/
def U32 (x : Int) : Prop := 0 ≤ x ∧ x < 4294967296
theorem bits32_or (x y : Int) : U32 (bits .or .u32 x y) := by
  have h : bits .or .u32 x y = IntKind.u32.wrap ((BitVec.ofInt 32 x ||| BitVec.ofInt 32 y).toNat : Int) := rfl
  rw [h, IntKind.wrap_u32]
  unfold U32
  omega
theorem bits32_xor (x y : Int) : U32 (bits .xor .u32 x y) := by
  have h : bits .xor .u32 x y = IntKind.u32.wrap ((BitVec.ofInt 32 x ^^^ BitVec.ofInt 32 y).toNat : Int) := rfl
  rw [h, IntKind.wrap_u32]
  unfold U32
  omega

theorem rot_7 (x : Int) (w : World) (h0 : 0 ≤ x) (h1 : x < 4294967296) : Calls Tryz.prog 69 #[.int .u32 x, .int .i64 7] w fun e w' => e = .returned (.int .u32 (rot7 x)) ∧ w' = w := by
  go_enter Tryz.func69, Tryz.ntmps69
  go_wp2
  go_ret
  exact ⟨rfl, rfl⟩
theorem rot_13 (x : Int) (w : World) (h0 : 0 ≤ x) (h1 : x < 4294967296) : Calls Tryz.prog 69 #[.int .u32 x, .int .i64 13] w fun e w' => e = .returned (.int .u32 (rot13 x)) ∧ w' = w := by
  go_enter Tryz.func69, Tryz.ntmps69
  go_wp2
  go_ret
  exact ⟨rfl, rfl⟩
theorem rot_17 (x : Int) (w : World) (h0 : 0 ≤ x) (h1 : x < 4294967296) : Calls Tryz.prog 69 #[.int .u32 x, .int .i64 17] w fun e w' => e = .returned (.int .u32 (rot17 x)) ∧ w' = w := by
  go_enter Tryz.func69, Tryz.ntmps69
  go_wp2
  go_ret
  exact ⟨rfl, rfl⟩

/-- The digest's four numbers. -/
structure S4 where
  a : Int
  b : Int
  c : Int
  d : Int
def S4.ok (s : S4) : Prop := U32 s.a ∧ U32 s.b ∧ U32 s.c ∧ U32 s.d
def S4.val (s : S4) : Value := .agg #[.int .u32 s.a, .int .u32 s.b, .int .u32 s.c, .int .u32 s.d]
def stA (s : S4) (v : Int) : Int := bits .xor .u32 s.a v * 16777619 % 4294967296
def stB (s : S4) (v : Int) : Int := rot7 ((s.b + bits .xor .u32 s.a v * 16777619) % 4294967296)
def stC (s : S4) (v : Int) : Int := rot13 (bits .xor .u32 s.c (stB s v))
def stD (s : S4) (v : Int) : Int := rot17 ((s.d + stC s v) % 4294967296)
/-- A byte stirred in. -/
def stir1 (s : S4) (v : Int) : S4 := ⟨bits .xor .u32 (stA s v) (stD s v), stB s v, stC s v, stD s v⟩
def stirL (s : S4) (xs : List Int) : S4 := xs.foldl stir1 s
theorem stir1_ok (s : S4) (v : Int) : (stir1 s v).ok := ⟨bits32_xor _ _, bits32_or _ _, bits32_or _ _, bits32_or _ _⟩
theorem stirL_ok (s : S4) (xs : List Int) (h : s.ok) : (stirL s xs).ok := by
  induction xs generalizing s with
  | nil => exact h
  | cons x xs ih => exact ih _ (stir1_ok s x)
theorem stirL_append (s : S4) (xs ys : List Int) : stirL s (xs ++ ys) = stirL (stirL s xs) ys := by simp [stirL]
theorem stirL_take (s : S4) (xs : List Int) (k : Nat) (hk : k < xs.length) : stirL s (xs.take (k + 1)) = stir1 (stirL s (xs.take k)) (xs.getD k 0) := by
  rw [List.take_add_one, stirL_append]
  simp [stirL, List.getD, hk]
end Go.Proofs.YteggfkekgdlecaaGreatDoor

namespace Go.Proofs.YteggfkekgdlecaaGreatDoor
open Go.RowKit
set_option linter.unusedVariables false

theorem blkS_setCell {w : World} {g : Nat} {c : Array Value} {t : TypeId} {fr : Nat × Nat} (h : w.heap[g]? = some (.cells c t fr)) (o : Nat) (u : Value) : (w.setCell ⟨g, o, none⟩ u).heap[g]? = some (.cells (c.setIfInBounds o u) t fr) := by
  simp only [World.setCell, Array.getElem?_modify, if_true]
  rw [h]
  rfl
theorem blkS_other {w : World} {g k : Nat} (hk : k ≠ g) (o : Nat) (u : Value) : (w.setCell ⟨g, o, none⟩ u).heap[k]? = w.heap[k]? := Below.heap_setCell _ _ _ _ hk
/-- The state lies in block g, the answer's room behind it; below w's end nothing has turned. -/
structure StirAt (w wr : World) (g : Nat) (s : S4) : Prop where
  blk : wr.heap[g]? = some (.cells #[.int .u32 s.a, .int .u32 s.b, .int .u32 s.c, .int .u32 s.d] 75 (0, 0))
  out : wr.heap[g + 1]? = some (.cells #[.int .u32 0, .int .u32 0, .int .u32 0, .int .u32 0] 75 (0, 0))
  bel : Below w.heap.size w wr

theorem infoS4 : (Tryz.prog.info? 75).map (·.size) = some 4 := by kernel_rfl
theorem StirAt.drew {w wr : World} {g : Nat} {s : S4} (h : StirAt w wr g s) : StirAt w wr.drew g s := ⟨h.blk, h.out, ⟨h.bel.os, h.bel.tape, h.bel.output, h.bel.size, h.bel.block⟩⟩

theorem stir_none (s : S4) (hs : s.ok) (ao : Option Addr) (cap : Nat) (w : World) :
    Calls Tryz.prog 49 #[s.val, .slice ao 0 cap] w fun e w' => e = .returned s.val ∧ Below w.heap.size w w' := by
  obtain ⟨a, b, c, d⟩ := s
  unfold S4.val
  simp only
  clear hs
  go_enter Tryz.func49, Tryz.ntmps49
  go_wp2
  refine wp_loop_rounds 1 ?_
  rw [rounds_succ]
  go_wp2
  refine bodyPost_ret (v := .agg #[.int .u32 a, .int .u32 b, .int .u32 c, .int .u32 d]) (by simp [results, Tryz.results49, go_sem]) rfl ⟨rfl, ?_⟩
  exact ((Below.refl _ _).alloc (Nat.le_refl _) _).alloc (by simp) _

theorem two_newS (w : World) (o1 o2 : Obj) : ((w.alloc o1).alloc o2).heap[w.heap.size]? = some o1 ∧ ((w.alloc o1).alloc o2).heap[w.heap.size + 1]? = some o2 := by
  have h1 := (MapKept.heap_alloc w o1).1
  have h2 := (MapKept.heap_alloc (w.alloc o1) o2).1
  have e : (w.alloc o1).heap.size = w.heap.size + 1 := by simp
  refine ⟨?_, by rw [← e]; exact h2⟩
  rw [Below.heap_alloc (w.alloc o1) o2 _ (by rw [e]; omega)]
  exact h1

/-- What a round of the stirring leaves. -/
theorem stirAt_step {w wr : World} {t : S4} {x : Int} (h : StirAt w wr w.heap.size t) (w' : World) (e : w'.heap = (wr.setCell ⟨w.heap.size, 0, none⟩ (.int .u32 (stA t x))).heap) (eo : w'.os = wr.os) (et : w'.tape = wr.tape) (eu : w'.output = wr.output) :
    StirAt w ((((w'.setCell ⟨w.heap.size, 1, none⟩ (.int .u32 (stB t x))).setCell ⟨w.heap.size, 2, none⟩ (.int .u32 (stC t x))).setCell ⟨w.heap.size, 3, none⟩ (.int .u32 (stD t x))).setCell ⟨w.heap.size, 0, none⟩ (.int .u32 (stir1 t x).a)) w.heap.size (stir1 t x) := by
  have hb := blkS_setCell h.blk 0 (.int .u32 (stA t x))
  have ho : (wr.setCell ⟨w.heap.size, 0, none⟩ (.int .u32 (stA t x))).heap[w.heap.size + 1]? = _ := (blkS_other (by omega) 0 _).trans h.out
  have hbel : Below w.heap.size w (wr.setCell ⟨w.heap.size, 0, none⟩ (.int .u32 (stA t x))) := h.bel.setCell (Nat.le_refl _) _
  rw [← e] at hb ho
  have hbel' : Below w.heap.size w w' := ⟨eo.trans h.bel.os, et.trans h.bel.tape, eu.trans h.bel.output, by rw [e]; exact hbel.size, fun k hk => by rw [e]; exact hbel.block k hk⟩
  refine ⟨?_, ?_, (((hbel'.setCell (Nat.le_refl _) _).setCell (Nat.le_refl _) _).setCell (Nat.le_refl _) _).setCell (Nat.le_refl _) _⟩
  · rw [blkS_setCell (blkS_setCell (blkS_setCell (blkS_setCell hb 1 _) 2 _) 3 _) 0 _]
    rfl
  · rw [blkS_other (by omega), blkS_other (by omega), blkS_other (by omega), blkS_other (by omega)]
    exact ho

set_option maxHeartbeats 2000000 in
theorem stir_some (s : S4) (hs : s.ok) (b off cap n : Nat) (xs : List Int) (w : World) (hn : 0 < n) (hl : xs.length = n) (hn1 : n ≤ 4611686018427387903) (hb : b < w.heap.size) (hB : Bytes xs)
    (hc : ∀ j, j < n → w.cell? ⟨b, off + j, none⟩ = some (.int .u8 (xs.getD j 0))) :
    Calls Tryz.prog 49 #[s.val, .slice (some ⟨b, off, none⟩) n cap] w fun e w' => e = .returned (stirL s xs).val ∧ Below w.heap.size w w' := by
  have HC : Hid _ := And.intro hc (And.intro hB (And.intro hl hs))
  clear hc hB hl
  have e0 : s.val = .agg #[.int .u32 s.a, .int .u32 s.b, .int .u32 s.c, .int .u32 s.d] := rfl
  rw [e0]
  clear e0 hs
  go_enter Tryz.func49, Tryz.ntmps49
  go_wp2
  go_loopw [5] (fun i wr => ∃ k : Nat, k ≤ n ∧ i = .int .i64 (k : Int) ∧ StirAt w wr w.heap.size (stirL s (xs.take k))) (fun i _ => n - (intOf i).toNat)
  case atStart => exact ⟨0, by omega, rfl, ⟨(two_newS _ _ _).1, (two_newS _ _ _).2, ((Below.refl _ _).alloc (Nat.le_refl _) _).alloc (by simp) _⟩⟩
  case round =>
    obtain ⟨k, hk, rfl, st⟩ := hrel
    have ok := stirL_ok s (xs.take k) HC.out.2.2.2
    by_cases hlt : k < n
    · have es := stirL_take s xs k (by have := HC.out.2.2.1; omega)
      have bx := HC.out.2.1.at k
      have cx := (st.bel.cell (p := ⟨b, off + k, none⟩) hb).trans (HC.out.1 k hlt)
      obtain ⟨t, et⟩ : ∃ t, t = stirL s (xs.take k) := ⟨_, rfl⟩
      rw [← et] at st ok es
      obtain ⟨x, ex⟩ : ∃ x, x = xs.getD k 0 := ⟨_, rfl⟩
      rw [← ex] at bx cx es
      have HE : Hid (stirL s (xs.take (k + 1)) = stir1 t x) := es
      have c0 : wr.cell? ⟨w.heap.size, 0, none⟩ = some (.int .u32 t.a) := by rw [blkS_cell st.blk]; rfl
      have c1 : wr.cell? ⟨w.heap.size, 1, none⟩ = some (.int .u32 t.b) := by rw [blkS_cell st.blk]; rfl
      have c2 : wr.cell? ⟨w.heap.size, 2, none⟩ = some (.int .u32 t.c) := by rw [blkS_cell st.blk]; rfl
      have c3 : wr.cell? ⟨w.heap.size, 3, none⟩ = some (.int .u32 t.d) := by rw [blkS_cell st.blk]; rfl
      have f0 := blkS_free st.blk 0
      have f1 := blkS_free st.blk 1
      have f2 := blkS_free st.blk 2
      have f3 := blkS_free st.blk 3
      have hne : b ≠ w.heap.size := by omega
      have HS : Hid _ := st
      obtain ⟨⟨a0, a1⟩, ⟨b0, b1⟩, ⟨g0, g1⟩, ⟨d0, d1⟩⟩ := ok
      clear st es ex et
      have uA : U32 (stA t x) := by unfold U32 stA; omega
      have uB : U32 (stB t x) := bits32_or _ _
      have uC : U32 (stC t x) := bits32_or _ _
      have uD : U32 (stD t x) := bits32_or _ _
      go_wp2
      go_region
      go_wp2_with fail
      go_at_call 69
      refine (rot_7 _ _ ?_ ?_).mono ?_
      · omega
      · omega
      rintro e w' ⟨rfl, rfl⟩
      go_wp2_with fail
      go_at_call 69
      refine (rot_13 _ _ (bits32_xor _ _).1 (bits32_xor _ _).2).mono ?_
      rintro e w' ⟨rfl, rfl⟩
      go_wp2_with fail
      go_at_call 69
      refine (rot_17 _ _ ?_ ?_).mono ?_
      · omega
      · omega
      rintro e w' ⟨rfl, rfl⟩
      go_wp2
      go_roundw
      case rel =>
        refine ⟨k + 1, by omega, by go_num, ?_⟩
        rw [HE.out]
        exact (stirAt_step (x := x) HS.out (wr.setCell ⟨w.heap.size, 0, none⟩ (.int .u32 (stA t x))) rfl rfl rfl rfl).drew
      case measure => simp [intOf]; omega
    · obtain rfl : k = n := by omega
      have el : xs.take k = xs := List.take_of_length_le (by have := HC.out.2.2.1; omega)
      rw [el] at st ok
      obtain ⟨t, et⟩ : ∃ t, t = stirL s xs := ⟨_, rfl⟩
      rw [← et] at st ok
      have c0 : wr.cell? ⟨w.heap.size, 0, none⟩ = some (.int .u32 t.a) := by rw [blkS_cell st.blk]; rfl
      have c1 : wr.cell? ⟨w.heap.size, 1, none⟩ = some (.int .u32 t.b) := by rw [blkS_cell st.blk]; rfl
      have c2 : wr.cell? ⟨w.heap.size, 2, none⟩ = some (.int .u32 t.c) := by rw [blkS_cell st.blk]; rfl
      have c3 : wr.cell? ⟨w.heap.size, 3, none⟩ = some (.int .u32 t.d) := by rw [blkS_cell st.blk]; rfl
      have f0 := blkS_free st.out 0
      have f1 := blkS_free st.out 1
      have f2 := blkS_free st.out 2
      have f3 := blkS_free st.out 3
      have o0 : wr.cell? ⟨w.heap.size + 1, 0, none⟩ = some (.int .u32 0) := by rw [blkS_cell st.out]; rfl
      have o1 : wr.cell? ⟨w.heap.size + 1, 1, none⟩ = some (.int .u32 0) := by rw [blkS_cell st.out]; rfl
      have o2 : wr.cell? ⟨w.heap.size + 1, 2, none⟩ = some (.int .u32 0) := by rw [blkS_cell st.out]; rfl
      have o3 : wr.cell? ⟨w.heap.size + 1, 3, none⟩ = some (.int .u32 0) := by rw [blkS_cell st.out]; rfl
      have HS : Hid _ := And.intro st et
      clear st et
      go_wp2
      try simp only [Exit.inBlock, Exit.then]
      refine bodyPost_ret (v := .agg #[.int .u32 t.a, .int .u32 t.b, .int .u32 t.c, .int .u32 t.d]) ?_ rfl ?_
      · refine results_cell_row (t := 75) rfl _ _ (w.heap.size + 1) _ (fr := (0, 0)) _ rfl ?_ Tryz.underlying75 rfl infoS4
        rw [blkS_setCell (blkS_setCell (blkS_setCell (blkS_setCell HS.out.1.out 0 _) 1 _) 2 _) 3 _]
        rfl
      · refine ⟨by rw [HS.out.2]; rfl, ?_⟩
        exact (((HS.out.1.bel.setCell (by simp) _).setCell (by simp) _).setCell (by simp) _).setCell (by simp) _

theorem stirC (s : S4) (hs : s.ok) (v : Value) (xs : List Int) (w : World) (hrow : Row w .u8 v xs) (hB : Bytes xs) (hl : xs.length ≤ 4611686018427387903) :
    Calls Tryz.prog 49 #[s.val, v] w fun e w' => e = .returned (stirL s xs).val ∧ Below w.heap.size w w' := by
  by_cases h0 : xs.length = 0
  · obtain ⟨ao, cap, rfl⟩ := hrow.form
    rw [h0, List.eq_nil_of_length_eq_zero h0]
    exact stir_none s hs ao cap w
  · obtain ⟨b, off, cap, rfl, hb, hc⟩ := hrow.at (by omega)
    exact stir_some s hs b off cap xs.length xs w (by omega) rfl hl hb hB hc
end Go.Proofs.YteggfkekgdlecaaGreatDoor

namespace Go.Proofs.YteggfkekgdlecaaGreatDoor
open Go.RowKit
set_option linter.unusedVariables false

def dig0 : S4 := ⟨1779033703, 3144134277, 1013904242, 2773480762⟩
theorem dig0_ok : dig0.ok := by unfold S4.ok U32 dig0; decide
/-- The four numbers of the digest of a key and data, and its bytes. -/
def digS (ks ds : List Int) : S4 := stirL (stirL (stirL (stirL (stirL dig0 (be (ks.length : Int) 4)) ks) ds) (be (ds.length : Int) 4)) (List.replicate 16 165)
def digV (ks ds : List Int) : List Int := be (digS ks ds).a 4 ++ be (digS ks ds).b 4 ++ be (digS ks ds).c 4 ++ be (digS ks ds).d 4
theorem digV_length (ks ds : List Int) : (digV ks ds).length = 16 := by simp [digV, be_length]
theorem be_bytes (v : Int) (n : Nat) : Bytes (be v n) := by
  induction n generalizing v with
  | zero => intro x hx; simp [be] at hx
  | succ n ih =>
    intro x hx
    simp only [be, List.mem_append, List.mem_singleton] at hx
    rcases hx with hx | rfl
    · exact ih _ x hx
    · omega
theorem bytes_append {xs ys : List Int} (hx : Bytes xs) (hy : Bytes ys) : Bytes (xs ++ ys) := by
  intro x h
  rcases List.mem_append.1 h with h | h
  · exact hx x h
  · exact hy x h
theorem digV_bytes (ks ds : List Int) : Bytes (digV ks ds) := bytes_append (bytes_append (bytes_append (be_bytes _ _) (be_bytes _ _)) (be_bytes _ _)) (be_bytes _ _)

/-- The digest's state lies in the first new block; below nothing has turned. -/
structure DigAt (w wx : World) (s : S4) : Prop where
  blk : wx.heap[w.heap.size]? = some (.cells #[.int .u32 s.a, .int .u32 s.b, .int .u32 s.c, .int .u32 s.d] 75 (0, 0))
  bel : Below w.heap.size w wx
theorem DigAt.lt {w wx : World} {s : S4} (h : DigAt w wx s) : w.heap.size < wx.heap.size := (Array.getElem?_eq_some_iff.1 h.blk).1
theorem DigAt.called {w wx w' : World} {s : S4} (h : DigAt w wx s) (hb : Below wx.heap.size wx w') : DigAt w w' s :=
  ⟨(hb.block _ h.lt).trans h.blk, h.bel.trans (hb.mono h.bel.size)⟩
theorem DigAt.alloc {w wx : World} {s : S4} (h : DigAt w wx s) (o : Obj) : DigAt w (wx.alloc o) s := h.called ((Below.refl _ _).alloc (Nat.le_refl _) o)
theorem DigAt.drew {w wx : World} {s : S4} (h : DigAt w wx s) : DigAt w wx.drew s := ⟨h.blk, ⟨h.bel.os, h.bel.tape, h.bel.output, h.bel.size, h.bel.block⟩⟩
theorem DigAt.stored {w wx : World} {s : S4} (h : DigAt w wx s) (t : S4) : DigAt w ((((wx.setCell ⟨w.heap.size, 0, none⟩ (.int .u32 t.a)).setCell ⟨w.heap.size, 1, none⟩ (.int .u32 t.b)).setCell ⟨w.heap.size, 2, none⟩ (.int .u32 t.c)).setCell ⟨w.heap.size, 3, none⟩ (.int .u32 t.d)) t := by
  refine ⟨?_, (((h.bel.setCell (Nat.le_refl _) _).setCell (Nat.le_refl _) _).setCell (Nat.le_refl _) _).setCell (Nat.le_refl _) _⟩
  rw [blkS_setCell (blkS_setCell (blkS_setCell (blkS_setCell h.blk 0 _) 1 _) 2 _) 3 _]
  rfl
theorem DigAt.cells {w wx : World} {s : S4} (h : DigAt w wx s) : wx.cell? ⟨w.heap.size, 0, none⟩ = some (.int .u32 s.a) ∧ wx.cell? ⟨w.heap.size, 1, none⟩ = some (.int .u32 s.b) ∧ wx.cell? ⟨w.heap.size, 2, none⟩ = some (.int .u32 s.c) ∧ wx.cell? ⟨w.heap.size, 3, none⟩ = some (.int .u32 s.d) :=
  ⟨by rw [blkS_cell h.blk]; rfl, by rw [blkS_cell h.blk]; rfl, by rw [blkS_cell h.blk]; rfl, by rw [blkS_cell h.blk]; rfl⟩
theorem DigAt.free {w wx : World} {s : S4} (h : DigAt w wx s) : wx.frozen? ⟨w.heap.size, 0, none⟩ = false ∧ wx.frozen? ⟨w.heap.size, 1, none⟩ = false ∧ wx.frozen? ⟨w.heap.size, 2, none⟩ = false ∧ wx.frozen? ⟨w.heap.size, 3, none⟩ = false :=
  ⟨blkS_free h.blk 0, blkS_free h.blk 1, blkS_free h.blk 2, blkS_free h.blk 3⟩
theorem stirD (s : S4) (hs : s.ok) (v : Value) (xs : List Int) (w : World) (hrow : Row w .u8 v xs) (hB : Bytes xs) (hl : xs.length ≤ 4611686018427387903) :
    Calls Tryz.prog 49 #[.agg #[.int .u32 s.a, .int .u32 s.b, .int .u32 s.c, .int .u32 s.d], v] w fun e w' => e = .returned (.agg #[.int .u32 (stirL s xs).a, .int .u32 (stirL s xs).b, .int .u32 (stirL s xs).c, .int .u32 (stirL s xs).d]) ∧ Below w.heap.size w w' :=
  stirC s hs v xs w hrow hB hl

theorem DigAt.grown {w wx w' : World} {s : S4} {r : Option Nat} (h : DigAt w wx s) (hg : wx.grownBy w' r) (hr : ∀ k, r = some k → w.heap.size < k) : DigAt w w' s := by
  refine ⟨(hg.block _ h.lt (fun e => by have := hr _ e.symm; omega)).trans h.blk, ⟨hg.os.trans h.bel.os, hg.tape.trans h.bel.tape, hg.output.trans h.bel.output, Nat.le_trans h.bel.size hg.size, fun k hk => ?_⟩⟩
  exact (hg.block k (Nat.lt_trans hk h.lt) (fun e => by have := hr _ e.symm; omega)).trans (h.bel.block k hk)
theorem pc_one (zs : List Int) (k : IntKind) : ∀ u, u ∈ zs.map (Value.int k) → u.oneCell' = true := by
  intro u hu
  obtain ⟨z, _, rfl⟩ := List.mem_map.1 hu
  rfl
theorem pc_cells {w : World} {base e g m cap : Nat} {zs : List Int} (h : w.ownsRow base e 1 (.slice (some ⟨g, 0, none⟩) m cap) m (zs.map (Value.int .u8))) :
    ∀ (j : Nat) (u : Value), (zs.map (Value.int .u8))[j]? = some u → w.cell? ((⟨g, 0, none⟩ : Addr).add j) = some u := by
  intro j u hj
  have hl : (zs.map (Value.int .u8)).length = m * 1 := h.1
  have hlt : j < m * 1 := by
    rw [← hl]
    exact (List.getElem?_eq_some_iff.1 hj).1
  have := h.cellAt j hlt
  rw [Go.WideShapes.add_plain, Nat.zero_add, this]
  exact hj
theorem dig_new (w : World) : DigAt w (w.alloc (.cells #[.int .u32 1779033703, .int .u32 3144134277, .int .u32 1013904242, .int .u32 2773480762] 75)) dig0 :=
  ⟨(MapKept.heap_alloc w _).1, (Below.refl _ _).alloc (Nat.le_refl _) _⟩

set_option maxRecDepth 20000 in
set_option maxHeartbeats 2000000 in
theorem specDigest (vk vd : Value) (ks ds : List Int) (w : World) (rk : Row w .u8 vk ks) (rd : Row w .u8 vd ds) (bk : Bytes ks) (bd : Bytes ds) (lk : ks.length ≤ 4611686018427387903) (ld : ds.length ≤ 4611686018427387903) :
    Calls Tryz.prog 23 #[vk, vd] w fun e w' => ∃ r, e = .returned r ∧ w'.ownsRow w.heap.size 5 1 r 16 ((digV ks ds).map (Value.int .u8)) ∧ Below w.heap.size w w' := by
  obtain ⟨i0, hi, hz0, hz1, hz2⟩ := info_parts infoU8
  obtain ⟨aok, capk, ek⟩ := rk.form
  obtain ⟨aod, capd, ed⟩ := rd.form
  subst ek ed
  obtain ⟨nk, enk⟩ : ∃ n, n = ks.length := ⟨_, rfl⟩
  obtain ⟨nd, ent⟩ : ∃ n, n = ds.length := ⟨_, rfl⟩
  rw [← enk] at lk rk ⊢
  rw [← ent] at ld rd ⊢
  have HH : Hid _ := And.intro rk (And.intro rd (And.intro bk (And.intro bd (And.intro enk ent))))
  clear rk rd bk bd enk ent
  have D0 := (dig_new w).drew
  have HD : Hid _ := D0
  clear D0
  go_enter Tryz.func23, Tryz.ntmps23
  go_upto_region 2 with fail
  go_cut [] from 9 to 13 (fun wx => DigAt w wx (stirL dig0 (be (nk : Int) 4)))
  case first =>
    go_region_with (first
      | (go_at_call 46; refine (digits 4 (nk : Int) _ ?_ ?_ ?_).mono ?_; omega; omega; decide; rintro e w2 ⟨r, rfl, o2, b2⟩; obtain ⟨c0, c1, c2, c3⟩ := (HD.out.called b2).cells; simp only [dig0] at c0 c1 c2 c3)
      | (go_at_call 49; refine (stirD dig0 dig0_ok _ _ _ (row_of_owns o2) (be_bytes _ _) ?_).mono ?_; (rw [be_length]; decide); rintro e w3 ⟨rfl, b3⟩; obtain ⟨d0, d1, d2, d3⟩ := ((HD.out.called b2).called b3).cells; obtain ⟨f0, f1, f2, f3⟩ := ((HD.out.called b2).called b3).free))
    all_goals (go_wp2_with fail; go_meet; exact ((HD.out.called b2).called b3).stored _)
  case rest =>
    have k1 := stirL_ok dig0 (be (nk : Int) 4) dig0_ok
    have E1 : Hid (stirL dig0 (be (nk : Int) 4) = stirL dig0 (be (ks.length : Int) 4)) := by rw [HH.out.2.2.2.2.1]; rfl
    generalize stirL dig0 (be (nk : Int) 4) = s1 at hcut k1 E1
    obtain ⟨c0, c1, c2, c3⟩ := hcut.cells
    have H1 : Hid _ := And.intro hcut k1
    clear hcut k1 HD
    go_wp2_with fail
    go_at_call 49
    refine (stirD s1 H1.out.2 _ ks _ (HH.out.1.below H1.out.1.bel) HH.out.2.2.1 (by have := HH.out.2.2.2.2.1; omega)).mono ?_
    rintro e w1 ⟨rfl, b1⟩
    have k2 := stirL_ok s1 ks H1.out.2
    have E2 : Hid (stirL s1 ks = stirL (stirL dig0 (be (ks.length : Int) 4)) ks) := by rw [E1.out]; rfl
    generalize stirL s1 ks = s2 at k2 E2 ⊢
    obtain ⟨d0, d1, d2, d3⟩ := (H1.out.1.called b1).cells
    obtain ⟨f0, f1, f2, f3⟩ := (H1.out.1.called b1).free
    have H2 : Hid _ := And.intro ((H1.out.1.called b1).stored s2) k2
    clear b1 k2 c0 c1 c2 c3
    go_wp2_with fail
    go_at_call 49
    refine (stirD s2 H2.out.2 _ ds _ (HH.out.2.1.below H2.out.1.bel) HH.out.2.2.2.1 (by have := HH.out.2.2.2.2.2; omega)).mono ?_
    rintro e w2 ⟨rfl, b2⟩
    have k3 := stirL_ok s2 ds H2.out.2
    have E3 : Hid (stirL s2 ds = stirL (stirL (stirL dig0 (be (ks.length : Int) 4)) ks) ds) := by rw [E2.out]; rfl
    generalize stirL s2 ds = s3 at k3 E3 ⊢
    clear d0 d1 d2 d3 f0 f1 f2 f3
    obtain ⟨d0, d1, d2, d3⟩ := (H2.out.1.called b2).cells
    obtain ⟨f0, f1, f2, f3⟩ := (H2.out.1.called b2).free
    have H3 : Hid _ := And.intro ((H2.out.1.called b2).stored s3) k3
    clear b2 k3
    go_upto_region 5 with fail
    go_cut [] from 20 to 24 (fun wx => DigAt w wx (stirL s3 (be (nd : Int) 4)))
    case first =>
      have H4 : Hid _ := H3.out.1.drew
      go_region_with (first
        | (go_at_call 46; refine (digits 4 (nd : Int) _ ?_ ?_ ?_).mono ?_; omega; omega; decide; rintro e w4 ⟨r, rfl, o4, b4⟩; obtain ⟨g0, g1, g2, g3⟩ := (H4.out.called b4).cells)
        | (go_at_call 49; refine (stirD s3 H3.out.2 _ _ _ (row_of_owns o4) (be_bytes _ _) ?_).mono ?_; (rw [be_length]; decide); rintro e w5 ⟨rfl, b5⟩; obtain ⟨m0, m1, m2, m3⟩ := ((H4.out.called b4).called b5).cells; obtain ⟨n0, n1, n2, n3⟩ := ((H4.out.called b4).called b5).free))
      all_goals (go_wp2_with fail; go_meet; exact ((H4.out.called b4).called b5).stored _)
    case rest =>
      have k4 := stirL_ok s3 (be (nd : Int) 4) H3.out.2
      have E4 : Hid (stirL s3 (be (nd : Int) 4) = stirL (stirL (stirL (stirL dig0 (be (ks.length : Int) 4)) ks) ds) (be (ds.length : Int) 4)) := by rw [E3.out, HH.out.2.2.2.2.2]; rfl
      generalize stirL s3 (be (nd : Int) 4) = s4 at hcut k4 E4
      have H4 : Hid _ := And.intro hcut k4
      clear hcut k4 d0 d1 d2 d3 f0 f1 f2 f3
      go_wp2_with fail
      go_loopw [6] (fun i wr => ∃ k : Nat, k ≤ 16 ∧ i = .int .i64 (k : Int) ∧ DigAt w wr (stirL s4 (List.replicate k 165))) (fun i _ => 16 - (intOf i).toNat)
      case atStart => exact ⟨0, by omega, rfl, H4.out.1⟩
      case round =>
        obtain ⟨k, hk, rfl, st⟩ := hrel
        have ok := stirL_ok s4 (List.replicate k 165) H4.out.2
        by_cases hlt : k < 16
        · have es : stirL s4 (List.replicate (k + 1) 165) = stirL (stirL s4 (List.replicate k 165)) [165] := by rw [List.replicate_succ', stirL_append]
          generalize stirL s4 (List.replicate k 165) = t at st ok es
          obtain ⟨c0, c1, c2, c3⟩ := st.cells
          have HS : Hid _ := And.intro st (And.intro ok es)
          clear st ok es
          go_wp2_with fail
          go_at_call 49
          refine (stirD t HS.out.2.1 _ [165] _ (one_row wr 165) (by intro x hx; simp at hx; subst hx; decide) (by decide)).mono ?_
          rintro e w5 ⟨rfl, b5⟩
          have D5 := (HS.out.1.alloc _).called b5
          obtain ⟨m0, m1, m2, m3⟩ := D5.cells
          obtain ⟨n0, n1, n2, n3⟩ := D5.free
          have H5 : Hid _ := D5.stored (stirL t [165])
          clear D5 b5 c0 c1 c2 c3
          go_wp2
          go_roundw
          case rel =>
            refine ⟨k + 1, by omega, by go_num, ?_⟩
            rw [HS.out.2.2]
            exact H5.out
          case measure => simp [intOf]; omega
        · obtain rfl : k = 16 := by omega
          have ES : Hid (stirL s4 (List.replicate 16 165) = digS ks ds) := by rw [E4.out]; rfl
          have EV : Hid (digV ks ds = be (digS ks ds).a 4 ++ be (digS ks ds).b 4 ++ be (digS ks ds).c 4 ++ be (digS ks ds).d 4) := rfl
          rw [ES.out] at st ok
          generalize digS ks ds = t at st ok EV
          obtain ⟨⟨a0, a1⟩, ⟨b0, b1⟩, ⟨g0, g1⟩, ⟨d0, d1⟩⟩ := ok
          obtain ⟨c0, c1, c2, c3⟩ := st.cells
          have HS : Hid _ := st
          clear st E1 E2 E3 E4 ES H1 H2 H3 H4
          go_wp2_with fail
          go_at_call 46
          refine (digits 4 t.a _ a0 ?_ (by decide)).mono ?_
          · omega
          rintro e w6 ⟨r1, rfl, o1, b6⟩
          have H6 : Hid _ := HS.out.called b6
          have O1 : Hid _ := owns_mono o1 (base' := w.heap.size + 1) HS.out.lt
          clear o1 b6 c0 c1 c2 c3
          obtain ⟨c0, c1, c2, c3⟩ := (H6.out).cells
          go_wp2_with fail
          go_at_call 46
          refine (digits 4 t.b _ b0 ?_ (by decide)).mono ?_
          · omega
          rintro e w7 ⟨q7, rfl, o7, b7⟩
          obtain ⟨p7, cp7, rfl, _, _⟩ := owns_shape o7 (by decide)
          have H7 : Hid _ := (H6.out).called b7
          have oo := owns_below (O1.out) b7
          have hbs : w.heap.size + 1 ≤ w7.heap.size := H7.out.lt
          go_wp2_with (at_builtin; refine wpList_append_own _ rfl _ _ 22 rfl (w.heap.size + 1) 5 i0 (.int .u8 0) 1 1 Tryz.underlying22 hi hz0 hz1 hz2 rfl (by decide) _ _ _ rfl oo ⟨p7, 0, none⟩ 4 cp7 ((be t.b 4).map (Value.int .u8)) rfl o7.1 (pc_cells o7) (pc_one _ _) (by unfold maxLen; omega) (by omega) hbs ?_; intro v8 w8 o8 g8 _; obtain ⟨x8, y8, z8, u8⟩ := (H7.out.grown g8 (fun k hk => (oo.lt k hk).1)).cells)
          have H8 : Hid _ := H7.out.grown g8 (fun k hk => (oo.lt k hk).1)
          have O8 : Hid _ := o8
          clear oo o7 b7 hbs o8 g8 c0 c1 c2 c3
          go_at_call 46
          refine (digits 4 t.c _ g0 ?_ (by decide)).mono ?_
          · omega
          rintro e w9 ⟨q9, rfl, o9, b9⟩
          obtain ⟨p9, cp9, rfl, _, _⟩ := owns_shape o9 (by decide)
          have H9 : Hid _ := (H8.out).called b9
          have oo := owns_below (O8.out) b9
          have hbs : w.heap.size + 1 ≤ w9.heap.size := H9.out.lt
          go_wp2_with (at_builtin; refine wpList_append_own _ rfl _ _ 22 rfl (w.heap.size + 1) 5 i0 (.int .u8 0) 1 1 Tryz.underlying22 hi hz0 hz1 hz2 rfl (by decide) _ _ _ rfl oo ⟨p9, 0, none⟩ 4 cp9 ((be t.c 4).map (Value.int .u8)) rfl o9.1 (pc_cells o9) (pc_one _ _) (by unfold maxLen; omega) (by omega) hbs ?_; intro v10 w10 o10 g10 _; obtain ⟨x10, y10, z10, u10⟩ := (H9.out.grown g10 (fun k hk => (oo.lt k hk).1)).cells)
          have H10 : Hid _ := H9.out.grown g10 (fun k hk => (oo.lt k hk).1)
          have O10 : Hid _ := o10
          clear oo o9 b9 hbs o10 g10 x8 y8 z8 u8
          go_at_call 46
          refine (digits 4 t.d _ d0 ?_ (by decide)).mono ?_
          · omega
          rintro e w11 ⟨q11, rfl, o11, b11⟩
          obtain ⟨p11, cp11, rfl, _, _⟩ := owns_shape o11 (by decide)
          have H11 : Hid _ := (H10.out).called b11
          have oo := owns_below (O10.out) b11
          have hbs : w.heap.size + 1 ≤ w11.heap.size := H11.out.lt
          go_wp2_with (at_builtin; refine wpList_append_own _ rfl _ _ 22 rfl (w.heap.size + 1) 5 i0 (.int .u8 0) 1 1 Tryz.underlying22 hi hz0 hz1 hz2 rfl (by decide) _ _ _ rfl oo ⟨p11, 0, none⟩ 4 cp11 ((be t.d 4).map (Value.int .u8)) rfl o11.1 (pc_cells o11) (pc_one _ _) (by unfold maxLen; omega) (by omega) hbs ?_; intro v12 w12 o12 g12 _)
          have HF : Hid _ := And.intro o12 (H11.out.grown g12 (fun k hk => (oo.lt k hk).1)).bel
          clear oo o11 b11 hbs o12 g12
          go_wp2
          go_ret
          refine ⟨_, rfl, ?_, HF.out.2⟩
          rw [EV.out, List.map_append, List.map_append, List.map_append]
          exact owns_mono HF.out.1 (Nat.le_succ _)
end Go.Proofs.YteggfkekgdlecaaGreatDoor

namespace Go.Proofs.YteggfkekgdlecaaGreatDoor
open Go.RowKit
set_option linter.unusedVariables false

/-- A text's bytes. -/
def lab (s : ByteArray) : List Int := s.data.toList.map fun b => (b.toNat : Int)
theorem lab_length (s : ByteArray) : (lab s).length = s.size := by unfold lab; rw [List.length_map, Array.length_toList]; rfl
theorem lab_bytes (s : ByteArray) : Bytes (lab s) := by
  intro x hx
  obtain ⟨b, _, rfl⟩ := List.mem_map.1 hx
  have := b.toNat_lt
  omega
/-- The first k blocks that are derived. -/
def blk (ss ls : List Int) : Nat → List Int
  | 0 => []
  | k + 1 => blk ss ls k ++ digV ss (ls ++ [(k : Int)])
theorem blk_length (ss ls : List Int) (k : Nat) : (blk ss ls k).length = 16 * k := by
  induction k with
  | zero => rfl
  | succ k ih => simp [blk, ih, digV_length]; omega
theorem blk_bytes (ss ls : List Int) (k : Nat) : Bytes (blk ss ls k) := by
  induction k with
  | zero => intro x hx; simp [blk] at hx
  | succ k ih => exact bytes_append ih (digV_bytes _ _)
theorem blk_take (ss ls : List Int) (n k m : Nat) (h : n ≤ 16 * k) : (blk ss ls (k + m)).take n = (blk ss ls k).take n := by
  induction m with
  | zero => rfl
  | succ m ih =>
    rw [← ih, ← Nat.add_assoc]
    show (blk ss ls (k + m) ++ _).take n = _
    rw [List.take_append_of_le_length (by rw [blk_length]; omega)]
def drvV (ss ls : List Int) (n : Nat) : List Int := (blk ss ls 4).take n
theorem drvV_length (ss ls : List Int) (n : Nat) (h : n ≤ 64) : (drvV ss ls n).length = n := by simp [drvV, blk_length]; omega
theorem drvV_bytes (ss ls : List Int) (n : Nat) : Bytes (drvV ss ls n) := fun x hx => blk_bytes ss ls 4 x (List.mem_of_mem_take hx)

theorem bytesRow_size (s : ByteArray) (C : Nat) (h : s.size ≤ C) : (bytesRow s C).size = C := by
  unfold bytesRow
  rw [Array.size_append, Array.size_map, Array.size_replicate]
  have : s.data.size = s.size := rfl
  omega
theorem lab_at (s : ByteArray) (C j : Nat) (hj : j < s.size) : (bytesRow s C)[j]? = some (.int .u8 ((lab s).getD j 0)) := by
  have hd : j < s.data.size := hj
  rw [bytesRow_at s C j hd]
  simp only [lab, List.getD, List.getElem?_map]
  rw [List.getElem?_eq_getElem (by simpa using hd)]
  simp

/-- 'append([]byte(label), x)': whatever room there is, the answer reads as the label's bytes and x. -/
theorem wpList_append_lab {ops : Array Oper} {rest : List Oper} {o : Oper} {a : Act} {Q : Exit → Act → World → Prop} (wr : World) (s : ByteArray) (C : Nat) (x : Int) (i0 : TypeInfo)
    (hgd : o.guard = none) (p q : Operand) (ho : o.op = .call { callee := .builtin .append, args := #[p, q], argTypes := #[22, 22] })
    (hi : Tryz.prog.info? 5 = some i0) (hz0 : i0.zero = some (.int .u8 0)) (hz1 : i0.size = 1) (hz2 : i0.bytes = 1)
    (hp : a.eval p = .slice (some ⟨wr.heap.size, 0, none⟩) s.size C) (hq : a.eval q = .slice (some ⟨wr.heap.size + 1, 0, none⟩) 1 1)
    (hs : s.size ≤ 4096) (hC : s.size ≤ C) (hC1 : C ≤ maxLen)
    (h : ∀ v' w', Row w' .u8 v' (lab s ++ [x]) → Below wr.heap.size wr w' → wpList Tryz.prog ops Q rest (a.put o.dst v') w') :
    wpList Tryz.prog ops Q (o :: rest) a ((wr.alloc (.cells (bytesRow s C) 5 ((bytesRow s C).size, (bytesRow s C).size + 1))).alloc (.cells #[.int .u8 x] 5)).drew := by
  obtain ⟨W, eW⟩ : ∃ W, W = ((wr.alloc (.cells (bytesRow s C) 5 ((bytesRow s C).size, (bytesRow s C).size + 1))).alloc (.cells #[.int .u8 x] 5)).drew := ⟨_, rfl⟩
  have hb0 : W.heap[wr.heap.size]? = some (.cells (bytesRow s C) 5 ((bytesRow s C).size, (bytesRow s C).size + 1)) := by rw [eW]; exact (two_newS wr _ _).1
  have hb1 : W.heap[wr.heap.size + 1]? = some (.cells #[.int .u8 x] 5 (0, 0)) := by rw [eW]; exact (two_newS wr _ _).2
  have hbel : Below wr.heap.size wr W := by
    have := ((Below.refl wr.heap.size wr).alloc (Nat.le_refl _) (.cells (bytesRow s C) 5 ((bytesRow s C).size, (bytesRow s C).size + 1))).alloc (by simp) (.cells #[.int .u8 x] 5)
    rw [eW]
    exact ⟨this.os, this.tape, this.output, this.size, this.block⟩
  rw [← eW]
  have hsz := bytesRow_size s C hC
  have c0 : ∀ j, j < s.size → W.cell? ⟨wr.heap.size, j, none⟩ = some (.int .u8 ((lab s).getD j 0)) := fun j hj => by rw [blkS_cell hb0]; exact lab_at s C j hj
  have cx : W.cell? ⟨wr.heap.size + 1, 0, none⟩ = some (.int .u8 x) := by rw [blkS_cell hb1]; rfl
  have hll : (lab s ++ [x]).length = s.size + 1 := by rw [List.length_append, lab_length]; rfl
  refine wpList_append_arg W hgd p q 22 ho 5 i0 (.int .u8 0) 1 1 Tryz.underlying22 hi hz0 hz1 hz2 rfl (by decide) wr.heap.size 0 s.size C ((lab s).map (Value.int .u8)) hp (by rw [List.length_map, lab_length]; omega) ?_ ⟨wr.heap.size + 1, 0, none⟩ 1 1 [.int .u8 x] hq rfl ?_ ?_ ?_ (by unfold maxLen; omega) (by omega) ?_ ?_
  · intro j u hj
    rw [List.getElem?_map] at hj
    have hlt : j < s.size := by
      rw [← lab_length s]
      cases hc : (lab s)[j]? with
      | none => rw [hc] at hj; simp at hj
      | some y => exact (List.getElem?_eq_some_iff.1 hc).1
    rw [Nat.zero_add, c0 j hlt]
    rw [List.getElem?_eq_getElem (by rw [lab_length]; exact hlt)] at hj
    simp only [Option.map_some, Option.some.injEq] at hj
    rw [← hj]
    simp [List.getD, lab_length, hlt]
  · intro j u hj
    match j, hj with
    | 0, hj => simp at hj; subst hj; rw [Go.WideShapes.add_plain]; exact cx
  · intro u hu
    simp at hu
    subst hu
    rfl
  · intro hroom j hj
    have hj0 : j = 0 := by simpa using hj
    subst hj0
    constructor
    · rw [blkS_cell hb0]
      rw [Array.getElem?_eq_getElem (by rw [hsz]; omega)]
      rfl
    · have : decide ((bytesRow s C).size ≤ 0 + s.size * 1 + 0) = false := by rw [hsz]; simp; omega
      simp only [World.frozen?, hb0, this, Bool.false_and]
  · intro hroom
    have e : W.setCells wr.heap.size (0 + s.size * 1) [.int .u8 x] = W.setCell ⟨wr.heap.size, s.size, none⟩ (.int .u8 x) := by
      rw [show 0 + s.size * 1 = s.size by omega]
      rfl
    rw [e]
    refine h _ _ ?_ (hbel.setCell (Nat.le_refl _) _)
    refine Or.inr ⟨wr.heap.size, 0, C, by rw [hll], ?_, by rw [hll]; exact ⟨hroom, hC1⟩, fun j hj => ?_⟩
    · have : wr.heap.size < W.heap.size := (Array.getElem?_eq_some_iff.1 hb0).1
      simpa [World.setCell] using this
    · rw [hll] at hj
      rw [Nat.zero_add, blkS_cell (blkS_setCell hb0 s.size (.int .u8 x))]
      rw [Array.getElem?_setIfInBounds]
      by_cases e : s.size = j
      · subst e
        rw [if_pos rfl, if_pos (by rw [hsz]; omega)]
        simp [List.getD, ← lab_length s]
      · rw [if_neg e, lab_at s C j (by omega)]
        have : j < (lab s).length := by rw [lab_length]; omega
        simp [List.getD, List.getElem?_append_left this]
  · intro hgr v' w' hown hg
    refine h v' w' ?_ ⟨hg.os.trans hbel.os, hg.tape.trans hbel.tape, hg.output.trans hbel.output, Nat.le_trans hbel.size hg.size, fun k hk => (hg.block k (Nat.lt_of_lt_of_le hk hbel.size) (by simp)).trans (hbel.block k hk)⟩
    have : w'.ownsRow W.heap.size 5 1 v' (s.size + 1) ((lab s ++ [x]).map (Value.int .u8)) := by rw [List.map_append]; exact hown
    exact row_of_owns this

theorem specDer_bad (ao : Option Addr) (m cap : Nat) (s : ByteArray) (n : Int) (w : World) (hm : m ≤ 9223372036854775807) (hs : s.size ≤ 9223372036854775807) (h : ¬ (m = 16 ∧ s.size ≤ 32 ∧ 1 ≤ n ∧ n ≤ 64)) :
    Calls Tryz.prog 25 #[.slice ao m cap, .string s, .int .i64 n] w fun e w' => ∃ r, e = .returned r ∧ w'.ownsRow w.heap.size 5 1 r 0 (([] : List Int).map (Value.int .u8)) ∧ Below w.heap.size w w' := by
  by_cases a : m = 16
  · subst a
    by_cases b : s.size ≤ 32
    · by_cases c : 1 ≤ n
      · have d : 64 < n := by omega
        clear h
        go_enter Tryz.func25, Tryz.ntmps25
        go_wp2
        go_ret
        exact ⟨_, rfl, World.ownsRow_lit _ #[] 0 (Nat.le_refl _) (by decide) rfl, (Below.refl _ _).alloc (Nat.le_refl _) _⟩
      · clear h
        go_enter Tryz.func25, Tryz.ntmps25
        go_wp2
        go_ret
        exact ⟨_, rfl, World.ownsRow_lit _ #[] 0 (Nat.le_refl _) (by decide) rfl, (Below.refl _ _).alloc (Nat.le_refl _) _⟩
    · clear h
      go_enter Tryz.func25, Tryz.ntmps25
      go_wp2
      go_ret
      exact ⟨_, rfl, World.ownsRow_lit _ #[] 0 (Nat.le_refl _) (by decide) rfl, (Below.refl _ _).alloc (Nat.le_refl _) _⟩
  · have a' : ((m : Int) != 16) = true := by simp; omega
    clear h
    go_enter Tryz.func25, Tryz.ntmps25
    go_wp2
    go_ret
    exact ⟨_, rfl, World.ownsRow_lit _ #[] 0 (Nat.le_refl _) (by decide) rfl, (Below.refl _ _).alloc (Nat.le_refl _) _⟩

set_option maxRecDepth 20000 in
set_option maxHeartbeats 2000000 in
theorem specDer_ok (b off cap : Nat) (ss : List Int) (s : ByteArray) (n : Nat) (w : World) (hrow : Row w .u8 (.slice (some ⟨b, off, none⟩) 16 cap) ss) (hB : Bytes ss) (hl : ss.length = 16) (hs : s.size ≤ 32) (hn0 : 1 ≤ n) (hn : n ≤ 64) :
    Calls Tryz.prog 25 #[.slice (some ⟨b, off, none⟩) 16 cap, .string s, .int .i64 (n : Int)] w fun e w' => ∃ r, e = .returned r ∧ w'.ownsRow w.heap.size 5 1 r n ((drvV ss (lab s) n).map (Value.int .u8)) ∧ Below w.heap.size w w' := by
  obtain ⟨i0, hi, hz0, hz1, hz2⟩ := info_parts infoU8
  have HH : Hid _ := And.intro hrow (And.intro hB hl)
  have kc := fun (w : World) => run_bytes_of_string (P := Tryz.prog) w 9 22 5 s Tryz.underlying9 Tryz.underlying22 Tryz.underlying5
  clear hrow hB hl
  go_enter Tryz.func25, Tryz.ntmps25
  go_wp2
  go_loopw [7, 8] (fun v i wr => ∃ k : Nat, k ≤ 4 ∧ i = .int .i64 (k : Int) ∧ wr.ownsRow w.heap.size 5 1 v (16 * k) ((blk ss (lab s) k).map (Value.int .u8)) ∧ Below w.heap.size w wr) (fun _ i _ => 4 - (intOf i).toNat)
  case atStart => exact ⟨0, by omega, rfl, World.ownsRow_lit _ #[] 0 (Nat.le_refl _) (by decide) rfl, (Below.refl _ _).alloc (Nat.le_refl _) _⟩
  case round =>
    obtain ⟨k, hk, rfl, hown, hb⟩ := hrel
    by_cases hlt : 16 * k < n
    · obtain ⟨ao', cap', ev⟩ := (row_of_owns hown).form
      rw [blk_length] at ev
      subst ev
      have HO : Hid _ := And.intro hown hb
      clear hown hb
      have hge := grownCap_ge wr s.size 0 5
      have hle := grownCap_le_maxLen wr s.size 0 5 (by unfold maxLen; omega)
      go_wp2_with (at_builtin; refine wpList_append_lab wr s (grownCap wr s.size 0 5) (k : Int) i0 rfl _ _ rfl hi hz0 hz1 hz2 rfl rfl (by omega) hge hle ?_; intro v1 w1 row1 bel1)
      go_at_call 23
      refine (specDigest _ v1 ss (lab s ++ [(k : Int)]) w1 (HH.out.1.below (HO.out.2.trans (bel1.mono HO.out.2.size))) row1 HH.out.2.1 (bytes_append (lab_bytes s) (by intro x hx; simp at hx; subst hx; omega)) (by rw [HH.out.2.2]; decide) (by rw [List.length_append, lab_length]; simp; omega)).mono ?_
      rintro e w2 ⟨r, rfl, o2, b2⟩
      obtain ⟨g, cp, rfl, _, _⟩ := owns_shape o2 (by decide)
      have oo := owns_below HO.out.1 (bel1.trans (b2.mono bel1.size))
      have hbs : w.heap.size ≤ w2.heap.size := Nat.le_trans HO.out.2.size (Nat.le_trans bel1.size b2.size)
      have HB : Hid _ := And.intro bel1 b2
      clear row1 bel1 b2
      go_wp2_with (at_builtin; refine wpList_append_own _ rfl _ _ 22 rfl w.heap.size 5 i0 (.int .u8 0) 1 1 Tryz.underlying22 hi hz0 hz1 hz2 rfl (by decide) _ _ _ rfl oo ⟨g, 0, none⟩ 16 cp ((digV ss (lab s ++ [(k : Int)])).map (Value.int .u8)) rfl o2.1 (pc_cells o2) (pc_one _ _) (by unfold maxLen; omega) (by omega) hbs ?_; intro v3 w3 o3 g3 _)
      have HF : Hid _ := And.intro o3 ((HO.out.2.trans ((HB.out.1.trans (HB.out.2.mono HB.out.1.size)).mono HO.out.2.size)).grown g3 hbs (fun j hj => (oo.lt j hj).1))
      clear o3 g3 oo o2
      go_wp2
      go_roundw
      case rel =>
        refine ⟨k + 1, by omega, by go_num, ?_, HF.out.2⟩
        show World.ownsRow _ _ _ _ _ _ ((blk ss (lab s) k ++ digV ss (lab s ++ [(k : Int)])).map (Value.int .u8))
        rw [List.map_append]
        exact HF.out.1
      case measure => simp [intOf]; omega
    · have hkn : 1 ≤ k := by omega
      have et : (blk ss (lab s) k).take n = drvV ss (lab s) n := by
        have := blk_take ss (lab s) n k (4 - k) (by omega)
        rw [show k + (4 - k) = 4 by omega] at this
        exact this.symm
      obtain ⟨g, cp, ev, hg0, hg1⟩ := owns_shape hown (by omega)
      subst ev
      have hcap : 16 * k ≤ cp ∧ cp ≤ maxLen := by
        rcases hown.2 with ⟨e, _⟩ | ⟨g', cap', cur, e, _, _, h1, h2, _⟩
        · cases e
        · cases e; exact ⟨h1, h2⟩
      have hcm : cp ≤ 9223372036854775807 := by have := hcap.2; unfold maxLen at this; omega
      have hc1 := hcap.1
      have hcs : ∀ (j : Nat) (u : Value), ((drvV ss (lab s) n).map (Value.int .u8))[j]? = some u → (wr.alloc (.cells #[] 5)).cell? ((⟨g, 0, none⟩ : Addr).add j) = some u := by
        intro j u hj
        have hj' : j < n := by
          have := (List.getElem?_eq_some_iff.1 hj).1
          rw [List.length_map, drvV_length _ _ _ hn] at this
          exact this
        rw [← et, List.map_take, List.getElem?_take] at hj
        rw [if_pos hj'] at hj
        have hb' := ((Below.refl wr.heap.size wr).alloc (Nat.le_refl _) (.cells #[] 5)).cell (p := ⟨g, 0 + j, none⟩) hg1
        have hp := pc_cells hown j u hj
        rw [Go.WideShapes.add_plain] at hp ⊢
        rw [hb']
        exact hp
      have hlen : ((drvV ss (lab s) n).map (Value.int .u8)).length = n * 1 := by rw [List.length_map, drvV_length _ _ _ hn]; omega
      have HF : Hid _ := And.intro hcs (And.intro hlen hb)
      have hbs : w.heap.size ≤ (wr.alloc (.cells #[] 5)).heap.size := by have := hb.size; simp; omega
      have hlit : (wr.alloc (.cells #[] 5)).ownsRow w.heap.size 5 1 (.slice (some ⟨wr.heap.size, 0, none⟩) 0 0) 0 [] := World.ownsRow_lit wr #[] 0 hb.size (by decide) rfl
      clear hown hb hcs hlen et hcap
      go_wp2_with (at_builtin; refine wpList_append_own _ rfl _ _ 22 rfl w.heap.size 5 i0 (.int .u8 0) 1 1 Tryz.underlying22 hi hz0 hz1 hz2 rfl (by decide) (.slice (some ⟨wr.heap.size, 0, none⟩) 0 0) 0 [] rfl hlit ⟨g, 0, none⟩ n cp ((drvV ss (lab s) n).map (Value.int .u8)) rfl HF.out.2.1 HF.out.1 (pc_one _ _) (by unfold maxLen; omega) (by omega) hbs ?_; intro v3 w3 o3 g3 _)
      have HG : Hid _ := And.intro o3 ((HF.out.2.2.alloc HF.out.2.2.size _).grown g3 hbs (fun j hj => (hlit.lt j hj).1))
      clear o3 g3
      go_wp2
      go_ret
      refine ⟨_, rfl, ?_, HG.out.2⟩
      have := HG.out.1
      rw [Nat.zero_add, List.nil_append] at this
      exact this

/-- What Derive answers. -/
def derV (ss : List Int) (s : ByteArray) (n : Int) : List Int := if ss.length = 16 ∧ s.size ≤ 32 ∧ 1 ≤ n ∧ n ≤ 64 then drvV ss (lab s) n.toNat else []
theorem derV_bytes (ss : List Int) (s : ByteArray) (n : Int) : Bytes (derV ss s n) := by
  unfold derV
  split
  · exact drvV_bytes _ _ _
  · intro x hx; cases hx
theorem derV_length (ss : List Int) (s : ByteArray) (n : Int) : (derV ss s n).length ≤ 64 := by
  unfold derV
  split
  · rw [drvV_length _ _ _ (by omega)]; omega
  · simp
theorem specDerive (v : Value) (ss : List Int) (s : ByteArray) (n : Int) (w : World) (hrow : Row w .u8 v ss) (hB : Bytes ss) (hl : ss.length ≤ 9223372036854775807) (hs : s.size ≤ 9223372036854775807) :
    Calls Tryz.prog 25 #[v, .string s, .int .i64 n] w fun e w' => ∃ r, e = .returned r ∧ w'.ownsRow w.heap.size 5 1 r (derV ss s n).length ((derV ss s n).map (Value.int .u8)) ∧ Below w.heap.size w w' := by
  by_cases h : ss.length = 16 ∧ s.size ≤ 32 ∧ 1 ≤ n ∧ n ≤ 64
  · obtain ⟨h16, h32, h1, h64⟩ := h
    obtain ⟨m, rfl⟩ := Int.eq_ofNat_of_zero_le (show 0 ≤ n by omega)
    have e : derV ss s (m : Int) = drvV ss (lab s) m := by unfold derV; rw [if_pos ⟨h16, h32, h1, h64⟩]; rfl
    rw [e, drvV_length _ _ _ (by omega)]
    obtain ⟨b, off, cap, rfl, hb, hc⟩ := hrow.at (by omega)
    rw [h16] at hrow ⊢
    exact specDer_ok b off cap ss s m w hrow hB h16 h32 (by omega) (by omega)
  · have e : derV ss s n = [] := by unfold derV; rw [if_neg h]
    rw [e]
    obtain ⟨ao, cap, rfl⟩ := hrow.form
    exact specDer_bad ao ss.length cap s n w hl hs h
end Go.Proofs.YteggfkekgdlecaaGreatDoor

namespace Go.Proofs.YteggfkekgdlecaaGreatDoor
open Go.RowKit
set_option linter.unusedVariables false
set_option linter.unusedSimpArgs false

/-- What both ends know. -/
structure AG where
  vr : Int
  nm : ByteArray
  c1 : List Int
  s1 : List Int
  c2 : List Int
  s2 : List Int
  ck : List Int
def AG.zero : AG := ⟨0, ⟨#[]⟩, [], [], [], [], []⟩
structure AGOwn (w : World) (base : Nat) (v0 v1 v2 v3 v4 : Value) (z : AG) : Prop where
  o0 : w.ownsRow base 5 1 v0 z.c1.length (z.c1.map (Value.int .u8))
  o1 : w.ownsRow base 5 1 v1 z.s1.length (z.s1.map (Value.int .u8))
  o2 : w.ownsRow base 5 1 v2 z.c2.length (z.c2.map (Value.int .u8))
  o3 : w.ownsRow base 5 1 v3 z.s2.length (z.s2.map (Value.int .u8))
  o4 : w.ownsRow base 5 1 v4 z.ck.length (z.ck.map (Value.int .u8))
  ap : List.Pairwise Apart [v0, v1, v2, v3, v4]
def AGOwns (w : World) (base : Nat) (v : Value) (z : AG) : Prop := ∃ v0 v1 v2 v3 v4, v = .agg #[.int .i64 z.vr, .string z.nm, v0, v1, v2, v3, v4] ∧ AGOwn w base v0 v1 v2 v3 v4 z
theorem AGOwns.below {w w' : World} {base : Nat} {v : Value} {z : AG} (k : AGOwns w base v z) (hb : Below w.heap.size w w') : AGOwns w' base v z := by
  obtain ⟨v0, v1, v2, v3, v4, e, k⟩ := k
  exact ⟨v0, v1, v2, v3, v4, e, owns_below k.o0 hb, owns_below k.o1 hb, owns_below k.o2 hb, owns_below k.o3 hb, owns_below k.o4 hb, k.ap⟩
theorem AGOwns.mono {w : World} {base base' : Nat} {v : Value} {z : AG} (k : AGOwns w base v z) (hb : base' ≤ base) : AGOwns w base' v z := by
  obtain ⟨v0, v1, v2, v3, v4, e, k⟩ := k
  exact ⟨v0, v1, v2, v3, v4, e, owns_mono k.o0 hb, owns_mono k.o1 hb, owns_mono k.o2 hb, owns_mono k.o3 hb, owns_mono k.o4 hb, k.ap⟩
def AGBlk (v : Value) (g : Nat) : Prop := ∃ cs, v = .agg cs ∧ ∃ i u, (i = 2 ∨ i = 3 ∨ i = 4 ∨ i = 5 ∨ i = 6) ∧ cs[i]? = some u ∧ Value.ownBlock u = some g
theorem AGOwns.blk {w : World} {base : Nat} {v : Value} {z : AG} (k : AGOwns w base v z) (g : Nat) (hg : AGBlk v g) : base ≤ g ∧ g < w.heap.size := by
  obtain ⟨v0, v1, v2, v3, v4, e, q⟩ := k
  obtain ⟨cs, e', i, u, hi, hu, hb⟩ := hg
  rw [e] at e'
  cases e'
  rcases hi with rfl | rfl | rfl | rfl | rfl <;> simp at hu <;> subst hu
  · exact q.o0.lt g hb
  · exact q.o1.lt g hb
  · exact q.o2.lt g hb
  · exact q.o3.lt g hb
  · exact q.o4.lt g hb
theorem Chg.agowns2 {S : Nat → Prop} {w w' : World} {base : Nat} {v : Value} {z : AG} (c : Chg S w w') (ho : AGOwns w base v z) (hs : ∀ g, AGBlk v g → ¬ S g) : AGOwns w' base v z := by
  obtain ⟨v0, v1, v2, v3, v4, rfl, q⟩ := ho
  exact ⟨v0, v1, v2, v3, v4, rfl, c.owns q.o0 (fun g hg => hs g ⟨_, rfl, 2, _, by simp, rfl, hg⟩), c.owns q.o1 (fun g hg => hs g ⟨_, rfl, 3, _, by simp, rfl, hg⟩), c.owns q.o2 (fun g hg => hs g ⟨_, rfl, 4, _, by simp, rfl, hg⟩), c.owns q.o3 (fun g hg => hs g ⟨_, rfl, 5, _, by simp, rfl, hg⟩), c.owns q.o4 (fun g hg => hs g ⟨_, rfl, 6, _, by simp, rfl, hg⟩), q.ap⟩
theorem agZero (w : World) (base : Nat) : AGOwns w base (.agg #[.int .i64 0, .string ⟨#[]⟩, .slice none 0 0, .slice none 0 0, .slice none 0 0, .slice none 0 0, .slice none 0 0]) AG.zero :=
  ⟨_, _, _, _, _, rfl, World.ownsRow_nil _ _ _ _, World.ownsRow_nil _ _ _ _, World.ownsRow_nil _ _ _ _, World.ownsRow_nil _ _ _ _, World.ownsRow_nil _ _ _ _, by
    have a : ∀ v : Value, Apart (.slice none 0 0) v := fun v g h => by cases h
    simp [a]⟩
/-- The labels. -/
def lC1 : ByteArray := ⟨#[99, 32, 104, 115]⟩
def lS1 : ByteArray := ⟨#[115, 32, 104, 115]⟩
def lC2 : ByteArray := ⟨#[99, 32, 97, 112]⟩
def lS2 : ByteArray := ⟨#[115, 32, 97, 112]⟩
def lCk : ByteArray := ⟨#[99, 104, 101, 99, 107]⟩
def agRt (ss : List Int) (c s : HE) : List Int := digV ss (heB c ++ heB s)
theorem agRt_len (ss : List Int) (c s : HE) : (agRt ss c s).length = 16 := digV_length _ _
theorem agRt_bytes (ss : List Int) (c s : HE) : Bytes (agRt ss c s) := digV_bytes _ _
def agV (rt : List Int) (vr : Int) (nm : ByteArray) : AG := ⟨vr, nm, derV rt lC1 16, derV rt lS1 16, derV rt lC2 16, derV rt lS2 16, derV rt lCk 8⟩
/-- The arguments are as they should be. -/
def agG (ss : List Int) (c s : HE) : Prop := ss.length = 16 ∧ c.kd = 1 ∧ s.kd = 2 ∧ heOK c ∧ heOK s
instance (ss : List Int) (c s : HE) : Decidable (agG ss c s) := by unfold agG; infer_instance
/-- The client named the name. -/
def agN (c s : HE) : Prop := ∃ j, j < c.nms.length ∧ (c.nms.getD j ByteArray.empty).data = (s.nms.getD 0 ByteArray.empty).data
instance (c s : HE) : Decidable (agN c s) := by
  unfold agN
  exact decidable_of_iff (∃ j : Fin c.nms.length, (c.nms.getD j.1 ByteArray.empty).data = (s.nms.getD 0 ByteArray.empty).data) ⟨fun ⟨j, h⟩ => ⟨j.1, j.2, h⟩, fun ⟨j, h, q⟩ => ⟨⟨j, h⟩, q⟩⟩
def agH (c s : HE) : Prop := agN c s ∧ c.vers.contains s.vr = true
instance (c s : HE) : Decidable (agH c s) := by unfold agH; infer_instance
def agC (ss : List Int) (c s : HE) : Int := if agG ss c s then (if agH c s then 0 else 12) else 1
def agR (ss : List Int) (c s : HE) : AG := if agG ss c s ∧ agH c s then agV (agRt ss c s) s.vr (s.nms.getD 0 ByteArray.empty) else AG.zero
/-- A hello that is as it should be, of the client and of the server. -/
theorem agG_facts {ss : List Int} {c s : HE} (h : agG ss c s) : c.vers.length ≤ 8 ∧ 1 ≤ c.vers.length ∧ c.nms.length ≤ 4 ∧ s.nms.length = 1 ∧ 1 ≤ s.vr ∧ s.vr ≤ 4294967295 := by
  obtain ⟨h16, hc, hs, oc, os⟩ := h
  have kc : heC c := by
    rcases oc.2 with q | q
    · have := q.1; omega
    · exact q.2
  have ks : heS s := by
    rcases os.2 with q | q
    · exact q.2
    · have := q.1; omega
  obtain ⟨-, ⟨⟨v1, v8⟩, -⟩, ⟨⟨n1, n4⟩, -⟩, -⟩ := kc
  obtain ⟨⟨r1, r2⟩, -, ⟨⟨m1, m2⟩, -⟩, -⟩ := ks
  exact ⟨v8, v1, n4, by omega, r1, r2⟩
end Go.Proofs.YteggfkekgdlecaaGreatDoor

namespace Go.Proofs.YteggfkekgdlecaaGreatDoor
open Go.RowKit
set_option linter.unusedVariables false

theorem markI_nil (k : Int) (v : Value) (w : World) (h : Row w .i64 v []) :
    Calls Tryz.prog 38 #[v, .int .i64 k] w fun e w' => e = .returned (.int .i64 k) ∧ w' = w := by
  obtain ⟨ao, ca, rfl⟩ := h.form
  clear h
  go_enter Tryz.func38, Tryz.ntmps38
  go_wp2
  refine wp_loop_rounds 1 ?_
  rw [rounds_succ]
  go_wp2
  go_ret
  exact ⟨rfl, rfl⟩

/-- What one store of a round does. -/
theorem markI_step {w wr : World} {base g n cap k : Nat} {q x : Int} {xs : List Int} (hx : x = (q + (k : Int)))
    (hl : xs.length = n) (hk : k < n) (hm : ∀ j, j < k → xs.getD j 0 = (q + (j : Int)))
    (hown : wr.ownsRow base 3 1 (.slice (some ⟨g, 0, none⟩) n cap) n (xs.map (Value.int .i64))) (hb : Below base w wr) (hz : wr.heap.size = w.heap.size) (ho : Only (some g) w wr) (hg : base ≤ g) :
    ∃ ys : List Int, ys.length = n ∧ (∀ j, j < k + 1 → ys.getD j 0 = (q + (j : Int))) ∧ (wr.setCell ⟨g, k, none⟩ (.int .i64 x)).ownsRow base 3 1 (.slice (some ⟨g, 0, none⟩) n cap) n (ys.map (Value.int .i64)) ∧
      Below base w (wr.setCell ⟨g, k, none⟩ (.int .i64 x)) ∧ (wr.setCell ⟨g, k, none⟩ (.int .i64 x)).heap.size = w.heap.size ∧ Only (some g) w (wr.setCell ⟨g, k, none⟩ (.int .i64 x)) := by
  refine ⟨xs.set k x, by simp [hl], fun j hj => ?_, ?_, hb.setCell hg _, by simp [World.setCell, hz], ho.trans (Only.setCell ⟨g, k, none⟩ _)⟩
  · by_cases e : j = k
    · subst e
      simp [List.getD, hl, hk, hx]
    · have := hm j (by omega)
      simp only [List.getD, List.getElem?_set] at this ⊢
      rw [if_neg (by omega)]
      exact this
  · have := (hown.stored k (.int .i64 x)).1
    rwa [← List.map_set] at this

set_option maxHeartbeats 400000 in
theorem markI_core (q : Int) (n : Nat) (base g cap : Nat) (xs : List Int) (w : World) (hn : n ≤ 140737488355328) (hq0 : 0 ≤ q) (hq1 : q ≤ 140737488355328) (hg : base ≤ g) (hl0 : xs.length = n)
    (hown0 : w.ownsRow base 3 1 (.slice (some ⟨g, 0, none⟩) n cap) n (xs.map (Value.int .i64))) :
    Calls Tryz.prog 38 #[.slice (some ⟨g, 0, none⟩) n cap, .int .i64 q] w fun e w' => e = .returned (.int .i64 (q + n)) ∧
      (∃ ys : List Int, ys.length = n ∧ (∀ j, j < n → ys.getD j 0 = (q + (j : Int))) ∧ w'.ownsRow base 3 1 (.slice (some ⟨g, 0, none⟩) n cap) n (ys.map (Value.int .i64))) ∧ Below base w w' ∧ w'.heap.size = w.heap.size ∧ Only (some g) w w' := by
  go_enter Tryz.func38, Tryz.ntmps38
  go_wp2
  go_loopw [1, 5] (fun s i wr => ∃ k : Nat, k ≤ n ∧ i = .int .i64 k ∧ s = .int .i64 (q + k) ∧ ∃ zs : List Int, zs.length = n ∧ (∀ j, j < k → zs.getD j 0 = (q + (j : Int))) ∧
      wr.ownsRow base 3 1 (.slice (some ⟨g, 0, none⟩) n cap) n (zs.map (Value.int .i64)) ∧ Below base w wr ∧ wr.heap.size = w.heap.size ∧ Only (some g) w wr) (fun _ i _ => n - (intOf i).toNat)
  case atStart => exact ⟨0, Nat.zero_le _, rfl, by simp, xs, hl0, fun j h => by omega, hown0, Below.refl _ _, rfl, Only.refl _ _⟩
  case round =>
    obtain ⟨k, hk, rfl, rfl, zs, hl, hm, hown, hb, hz, ho⟩ := hrel
    by_cases hlt : k < n
    · have R := markI_step (x := (q + (k : Int))) rfl hl hlt hm hown hb hz ho hg
      have f1 := hown.frozenAt k
      have c1 : ∃ u, wr.cell? ⟨g, k, none⟩ = some u := by
        have := hown.cellAt k (by omega)
        rw [this]
        exact ⟨_, by rw [List.getElem?_map, List.getElem?_eq_getElem (by omega)]; rfl⟩
      obtain ⟨u, c1⟩ := c1
      clear hl hm hown hb hz ho hown0 hl0
      obtain ⟨ys, R⟩ := R
      have HR : Hid _ := R
      clear R
      go_wp2
      go_roundw
      case rel =>
        obtain ⟨r1, r2, r3, r4, r5, r6⟩ := HR.out
        exact ⟨k + 1, by omega, by go_num, by go_num, ys, r1, r2, r3, r4, r5, r6⟩
      case measure => simp [intOf]; omega
    · have HR : Hid _ := And.intro hl (And.intro hm (And.intro hown (And.intro hb (And.intro hz ho))))
      clear hl hm hown hb hz ho hown0 hl0
      go_wp2
      go_ret
      obtain rfl : k = n := by omega
      obtain ⟨r1, r2, r3, r4, r5, r6⟩ := HR.out
      exact ⟨rfl, ⟨zs, r1, r2, r3⟩, r4, r5, r6⟩

theorem markInts (q : Int) (n base : Nat) (v : Value) (xs : List Int) (w : World) (hn : n ≤ 140737488355328) (hq0 : 0 ≤ q) (hq1 : q ≤ 140737488355328)
    (hown : w.ownsRow base 3 1 v n (xs.map (Value.int .i64))) :
    Calls Tryz.prog 38 #[v, .int .i64 q] w fun e w' => e = .returned (.int .i64 (q + n)) ∧ w'.ownsRow base 3 1 v n ((marksI q n).map (Value.int .i64)) ∧ Below base w w' ∧ w'.heap.size = w.heap.size ∧ Only v.ownBlock w w' := by
  have hl : xs.length = n := by simpa using hown.1
  rcases hown.2 with ⟨rfl, h0⟩ | ⟨g, cap, cur, rfl, hg, hh, r⟩
  · subst h0
    obtain rfl : xs = [] := List.eq_nil_of_length_eq_zero hl
    refine (markI_nil q _ w (row_of_owns hown)).mono ?_
    rintro e w' ⟨rfl, rfl⟩
    exact ⟨by simp, hown, Below.refl _ _, rfl, Only.refl _ _⟩
  · refine (markI_core q n base g cap xs w hn hq0 hq1 hg hl hown).mono ?_
    rintro e w' ⟨rfl, ⟨ys, hy, hm, ho⟩, hb, hz, hon⟩
    have : ys = marksI q n := by
      apply List.ext_getElem (by rw [hy, marksI_length])
      intro i h1 h2
      have e1 := hm i (by omega)
      have e2 := marksI_at q n i (by omega)
      simp only [List.getD, List.getElem?_eq_getElem h1, List.getElem?_eq_getElem h2, Option.getD_some] at e1 e2
      rw [e1, e2]
    subst this
    exact ⟨rfl, ho, hb, hz, hon⟩
end Go.Proofs.YteggfkekgdlecaaGreatDoor

namespace Go.Proofs.YteggfkekgdlecaaGreatDoor
open Go.RowKit
set_option linter.unusedVariables false

theorem conv_rowT {P : Program} {w : World} {e ts tstr : Nat} {v : Value} {xs : List Int} (hs : P.underlying ts = some (.slice e)) (he : P.underlying e = some (.int .u8)) (hd : P.underlying tstr = some .string)
    (h : Row w .u8 v xs) (h0 : 0 < xs.length) : (convert ts tstr v).run P w = .ok (.string (strOfNums xs)) w := by
  obtain ⟨b, off, cap, rfl, hb, hc⟩ := h.at h0
  exact run_convert_bytes_arg w ts e hs he b off xs.length cap xs rfl hc tstr hd
/-- The digits of k ahead of acc. -/
def dgT : Nat → Nat → ByteArray → ByteArray
  | 0, _, acc => acc
  | f + 1, k, acc => if k = 0 then acc else dgT f (k / 10) (strOfNums [48 + ((k : Int) % 10)] ++ acc)
theorem dgT_zero (f : Nat) (acc : ByteArray) : dgT f 0 acc = acc := by cases f <;> simp [dgT]
theorem dgT_more : ∀ (f k : Nat) (acc : ByteArray), k ≤ f → dgT f k acc = dgT k k acc := by
  intro f
  induction f using Nat.strongRecOn with
  | _ f ih =>
    intro k acc h
    cases f with
    | zero => have : k = 0 := by omega
              subst this; rfl
    | succ f =>
      cases k with
      | zero => rw [dgT_zero]; rfl
      | succ k =>
        show (if k + 1 = 0 then acc else dgT f ((k + 1) / 10) _) = (if k + 1 = 0 then acc else dgT k ((k + 1) / 10) _)
        rw [if_neg (by omega), if_neg (by omega), ih f (by omega) _ _ (by omega), ih k (by omega) _ _ (by omega)]
def mkT (k : Int) : ByteArray := if k ≤ 0 then ⟨#[109, 48]⟩ else ⟨#[109]⟩ ++ dgT k.toNat k.toNat ByteArray.empty
set_option maxRecDepth 20000 in
set_option maxHeartbeats 800000 in
theorem markTextC (k : Int) (w : World) (h1 : k ≤ 1000000000000000) :
    Calls Tryz.prog 64 #[.int .i64 k] w fun e w' => e = .returned (.string (mkT k)) ∧ Below w.heap.size w w' := by
  by_cases h0 : k ≤ 0
  · have e : mkT k = ⟨#[109, 48]⟩ := by unfold mkT; rw [if_pos h0]
    rw [e]
    clear e
    go_enter Tryz.func64, Tryz.ntmps64
    go_wp2
    go_ret
    exact ⟨rfl, Below.refl _ _⟩
  · have e : mkT k = ⟨#[109]⟩ ++ dgT k.toNat k.toNat ByteArray.empty := by unfold mkT; rw [if_neg h0]
    obtain ⟨n, rfl⟩ : ∃ n : Nat, k = (n : Int) := ⟨k.toNat, by omega⟩
    obtain ⟨R, eR⟩ : ∃ R, R = dgT n n ByteArray.empty := ⟨_, rfl⟩
    rw [e, Int.toNat_natCast, ← eR]
    have HR : Hid _ := And.intro eR True.intro
    clear e eR
    go_enter Tryz.func64, Tryz.ntmps64
    go_wp2
    go_loopg [0, 3] n (fun q s t wr => ∃ (m : Nat) (acc : ByteArray), m ≤ n ∧ q = m ∧ s = .int .i64 (m : Int) ∧ t = .string acc ∧ Hid (dgT m m acc = R) ∧ acc.size ≤ n - m ∧ Below w.heap.size w wr)
    case atStart => exact ⟨n, ByteArray.empty, Nat.le_refl _, rfl, rfl, rfl, HR.out.1.symm, by simp, Below.refl _ _⟩
    case round =>
      obtain ⟨m, acc, hm, rfl, rfl, rfl, HD, hsz, hb⟩ := hrel
      by_cases hz : gk = 0
      · subst hz
        go_wp2
        all_goals first
          | (exfalso; simp at *; omega)
          | (go_ret
             refine ⟨?_, hb⟩
             have := HD.out
             rw [dgT_zero] at this
             rw [← this]
             rfl)
      · have hp : (0 : Int) < (gk : Int) := by omega
        have hs1 : (strOfNums [48 + (gk : Int) % 10]).size = 1 := rfl
        have hcv : ∀ x : Int, (convert 22 9 (.slice (some ⟨wr.heap.size, 0, none⟩) 1 1)).run Tryz.prog (wr.alloc (.cells #[.int .u8 x] 5)) = .ok (.string (strOfNums [x])) (wr.alloc (.cells #[.int .u8 x] 5)) := fun x => conv_rowT Tryz.underlying22 Tryz.underlying5 Tryz.underlying9 (one_row wr x) (by simp)
        have HZ : Hid _ := And.intro hs1 True.intro
        clear hs1
        go_wp2
        all_goals first
          | (exfalso; have := HZ.out.1; omega)
          | skip
        go_roundg (gk / 10)
        case measure => omega
        case rel =>
          refine ⟨gk / 10, _, by omega, rfl, by go_num, rfl, ?_, ?_, hb.alloc hb.size _⟩
          · show dgT _ _ _ = R
            have h := HD.out
            obtain ⟨f, rfl⟩ : ∃ f, gk = f + 1 := ⟨gk - 1, by omega⟩
            rw [← h]
            show _ = (if f + 1 = 0 then acc else dgT f ((f + 1) / 10) _)
            rw [if_neg (by omega), dgT_more f _ _ (by omega)]
          · have := HZ.out.1
            rw [ByteArray.size_append]
            omega
end Go.Proofs.YteggfkekgdlecaaGreatDoor

namespace Go.Proofs.YteggfkekgdlecaaGreatDoor
open Go.RowKit
set_option linter.unusedVariables false

def marksT (q : Int) (n : Nat) : List ByteArray := (List.range n).map fun (i : Nat) => mkT (q + (i : Int))
theorem marksT_length (q : Int) (n : Nat) : (marksT q n).length = n := by simp [marksT]
theorem marksT_at (q : Int) (n j : Nat) (h : j < n) : (marksT q n).getD j ByteArray.empty = mkT (q + (j : Int)) := by simp [marksT, List.getD, h]
theorem Chg.set {S : Nat → Prop} {w w' : World} (h : Chg S w w') (a : Addr) (u : Value) (hs : S a.block) : Chg S w (w'.setCell a u) :=
  h.trans ⟨rfl, rfl, rfl, by simp [World.setCell], fun k hk hn => Below.heap_setCell _ _ _ _ (fun e => hn (by rw [e]; exact hs))⟩
theorem markStrs_nil (q : Int) (ao : Option Addr) (cap : Nat) (w : World) :
    Calls Tryz.prog 39 #[.slice ao 0 cap, .int .i64 q] w fun e w' => e = .returned (.int .i64 q) ∧ w' = w := by
  go_enter Tryz.func39, Tryz.ntmps39
  go_wp2
  refine wp_loop_rounds 1 ?_
  rw [rounds_succ]
  go_wp2
  go_ret
  exact ⟨rfl, rfl⟩
set_option maxRecDepth 20000 in
set_option maxHeartbeats 800000 in
theorem markStrs_core (q : Int) (n base g cap : Nat) (L : List ByteArray) (w : World) (hl : L.length = n) (hn : n ≤ 1048576) (q0 : 0 ≤ q) (q1 : q ≤ 140737400000000) (ho : w.ownsRow base 9 1 (.slice (some ⟨g, 0, none⟩) n cap) n (L.map Value.string)) :
    Calls Tryz.prog 39 #[.slice (some ⟨g, 0, none⟩) n cap, .int .i64 q] w fun e w' => e = .returned (.int .i64 (q + (n : Int))) ∧ w'.ownsRow base 9 1 (.slice (some ⟨g, 0, none⟩) n cap) n ((marksT q n).map Value.string) ∧ Chg (fun k => k = g) w w' := by
  have HH : Hid _ := And.intro ho hl
  clear ho hl
  go_enter Tryz.func39, Tryz.ntmps39
  go_wp2
  go_loopw [1, 5] (fun s i wr => ∃ k : Nat, k ≤ n ∧ i = .int .i64 (k : Int) ∧ s = .int .i64 (q + (k : Int)) ∧ ∃ zs : List ByteArray, zs.length = n ∧ (∀ j, j < k → zs.getD j ByteArray.empty = mkT (q + (j : Int))) ∧ wr.ownsRow base 9 1 (.slice (some ⟨g, 0, none⟩) n cap) n (zs.map Value.string) ∧ Chg (fun k => k = g) w wr) (fun _ i _ => n - (intOf i).toNat)
  case atStart => exact ⟨0, Nat.zero_le _, rfl, by simp, L, HH.out.2, fun j h => by omega, HH.out.1, ⟨rfl, rfl, rfl, Nat.le_refl _, fun _ _ _ => rfl⟩⟩
  case round =>
    obtain ⟨k, hk, rfl, rfl, zs, hl, hm, hown, hch⟩ := hrel
    by_cases hlt : k < n
    · have HC : Hid _ := And.intro (markTextC (q + (k : Int)) wr (by omega)) (And.intro hl (And.intro hm (And.intro hown hch)))
      have ew : IntKind.i64.wrap (q + (k : Int) + 1) = q + (k : Int) + 1 := by rw [IntKind.wrap_i64]; omega
      clear hl hm hown hch
      go_wp2_with (go_at_call 64; refine HC.out.1.mono ?_; rintro e w1 ⟨rfl, b1⟩; have own1 := owns_below HC.out.2.2.2.1 b1; have f1 := own1.frozenAt k; have c1 := owns_cellT own1 HC.out.2.1 hlt; have R := fill_stepT (w := w1) (B := 0) (x := mkT (q + (k : Int))) (f := fun j => mkT (q + (j : Int))) rfl HC.out.2.1 hlt HC.out.2.2.1 own1 (Below.refl _ _) (Nat.zero_le _); have HR : Hid _ := And.intro R (And.intro (HC.out.2.2.2.2.trans (Chg.of_below b1)) True.intro); clear R own1 b1)
      go_roundw
      case rel =>
        obtain ⟨ys, r1, r2, r3, _⟩ := HR.out.1
        exact ⟨k + 1, by omega, by go_num, by go_num, ys, r1, r2, r3, HR.out.2.1.set _ _ rfl⟩
      case measure => simp [intOf]; omega
    · obtain rfl : k = n := by omega
      have HR : Hid _ := And.intro hl (And.intro hm (And.intro hown hch))
      clear hl hm hown hch
      go_wp2
      go_ret
      obtain ⟨r1, r2, r3, r4⟩ := HR.out
      obtain rfl : zs = marksT q k := tlist_eq r1 (marksT_length q k) (fun j hj => by rw [r2 j hj, marksT_at q k j hj])
      exact ⟨rfl, r3, r4⟩
/-- The law's marks in a row of texts of one's own. -/
theorem markStrs (q : Int) (n base : Nat) (v : Value) (L : List ByteArray) (w : World) (hl : L.length = n) (hn : n ≤ 1048576) (q0 : 0 ≤ q) (q1 : q ≤ 140737400000000) (ho : w.ownsRow base 9 1 v n (L.map Value.string)) :
    Calls Tryz.prog 39 #[v, .int .i64 q] w fun e w' => e = .returned (.int .i64 (q + (n : Int))) ∧ w'.ownsRow base 9 1 v n ((marksT q n).map Value.string) ∧ Chg (fun k => v.ownBlock = some k) w w' := by
  rcases ho.2 with ⟨rfl, h0⟩ | ⟨g, cap, cur, rfl, _⟩
  · have : n = 0 := by have := ho.1; rw [h0] at this; simp at this; omega
    subst this
    refine (markStrs_nil q none 0 w).mono ?_
    rintro e w' ⟨rfl, rfl⟩
    exact ⟨by simp, World.ownsRow_nil _ _ _ _, ⟨rfl, rfl, rfl, Nat.le_refl _, fun _ _ _ => rfl⟩⟩
  · refine (markStrs_core q n base g cap L w hl hn q0 q1 ho).mono ?_
    rintro e w' ⟨rfl, h1, h2⟩
    exact ⟨rfl, h1, ⟨h2.os, h2.tape, h2.output, h2.size, fun k hk hs => h2.block k hk (fun e => hs (by rw [e]; rfl))⟩⟩
end Go.Proofs.YteggfkekgdlecaaGreatDoor

namespace Go.Proofs.YteggfkekgdlecaaGreatDoor
open Go.RowKit
set_option linter.unusedVariables false

def HE.marked (h : HE) (q : Int) : HE :=
  ⟨h.kd, h.vr, marks q h.rnd.length, marksI (q + (h.rnd.length : Int)) h.vers.length, marksT (q + (h.rnd.length : Int) + (h.vers.length : Int)) h.nms.length, h.par.marked (q + (h.rnd.length : Int) + (h.vers.length : Int) + (h.nms.length : Int))⟩
def HE.marksN (h : HE) : Int := (h.rnd.length : Int) + (h.vers.length : Int) + (h.nms.length : Int) + ((h.par.o.length : Int) + (h.par.t.length : Int) + (h.par.f.length : Int))
theorem hemarks_nn (h : HE) : 0 ≤ h.marksN := by unfold HE.marksN; omega
theorem only_chg {g : Option Nat} {w w' : World} (h : Only g w w') : Chg (fun k => g = some k) w w' := Chg.of_only h (fun k e => e)
theorem Chg.sub {S S' : Nat → Prop} {w w' : World} (h : Chg S w w') (hs : ∀ k, S k → S' k) : Chg S' w w' := ⟨h.os, h.tape, h.output, h.size, fun k hk hn => h.block k hk (fun e => hn (hs k e))⟩
theorem PPOwns.lits {w : World} {base : Nat} {c0 c1 c2 c3 c4 c5 c6 c7 c8 c9 v3 v4 v5 : Value} {p : PP} (k : PPOwns w base (.agg #[c0, c1, c2, c3, c4, c5, c6, c7, c8, c9, v3, v4, v5]) p) : PPOwn w base v3 v4 v5 p := by
  obtain ⟨t3, t4, t5, e, q⟩ := k
  simp only [Value.agg.injEq, Array.mk.injEq, List.cons.injEq] at e
  obtain ⟨_, _, _, _, _, _, _, _, _, _, rfl, rfl, rfl, _⟩ := e
  exact q
theorem ppblk_lits {c0 c1 c2 c3 c4 c5 c6 c7 c8 c9 v3 v4 v5 : Value} {g : Nat} (h : PPBlk (.agg #[c0, c1, c2, c3, c4, c5, c6, c7, c8, c9, v3, v4, v5]) g) : v3.ownBlock = some g ∨ v4.ownBlock = some g ∨ v5.ownBlock = some g := by
  obtain ⟨cs, t2, t3, t4, ec, e2, e3, e4, hb⟩ := h
  cases ec
  simp at e2 e3 e4
  subst e2 e3 e4
  exact hb
set_option maxRecDepth 20000 in
set_option maxHeartbeats 4000000 in
theorem markHel (q : Int) (base : Nat) (v : Value) (h : HE) (w : World) (hs : h.small 1048576) (hq0 : 0 ≤ q) (hq1 : q ≤ 140737000000000) (ho : HEOwns w base v h) :
    Calls Tryz.prog 13 #[v, .int .i64 q] w fun e w' => e = .returned (.int .i64 (q + h.marksN)) ∧ HEOwns w' base v (h.marked q) ∧ Chg (HEBlk v) w w' := by
  obtain ⟨v0, v1, v2, v3, v4, v5, rfl, k⟩ := ho
  obtain ⟨s0, s1, s2, s3⟩ := hs
  have ap := k.ap
  simp only [List.pairwise_cons, List.mem_cons, List.mem_nil_iff, or_false, forall_eq_or_imp, forall_eq] at ap
  obtain ⟨⟨a01, a02, a03, a04, a05⟩, ⟨a12, a13, a14, a15⟩, ⟨a23, a24, a25⟩, ⟨a34, a35⟩, a45, -⟩ := ap
  have WB : Below w.heap.size w (w.alloc (.cells #[.int .i64 h.kd, .int .i64 h.vr, v0, v1, v2, .int .i64 h.par.a0, .int .i64 h.par.a1, .int .i64 h.par.a2, .int .i64 h.par.a3, .int .i64 h.par.a4, .int .i64 h.par.a5, .int .i64 h.par.a6, .int .i64 h.par.a7, .int .i64 h.par.a8, .bool h.par.m, v3, v4, v5] 37)) := (Below.refl _ _).alloc (Nat.le_refl _) _
  have B0 : (w.alloc (.cells #[.int .i64 h.kd, .int .i64 h.vr, v0, v1, v2, .int .i64 h.par.a0, .int .i64 h.par.a1, .int .i64 h.par.a2, .int .i64 h.par.a3, .int .i64 h.par.a4, .int .i64 h.par.a5, .int .i64 h.par.a6, .int .i64 h.par.a7, .int .i64 h.par.a8, .bool h.par.m, v3, v4, v5] 37)).heap[w.heap.size]? = some (.cells #[.int .i64 h.kd, .int .i64 h.vr, v0, v1, v2, .int .i64 h.par.a0, .int .i64 h.par.a1, .int .i64 h.par.a2, .int .i64 h.par.a3, .int .i64 h.par.a4, .int .i64 h.par.a5, .int .i64 h.par.a6, .int .i64 h.par.a7, .int .i64 h.par.a8, .bool h.par.m, v3, v4, v5] 37 (0, 0)) := heap_alloc_new w _
  have PO : PPOwns (w.alloc (.cells #[.int .i64 h.kd, .int .i64 h.vr, v0, v1, v2, .int .i64 h.par.a0, .int .i64 h.par.a1, .int .i64 h.par.a2, .int .i64 h.par.a3, .int .i64 h.par.a4, .int .i64 h.par.a5, .int .i64 h.par.a6, .int .i64 h.par.a7, .int .i64 h.par.a8, .bool h.par.m, v3, v4, v5] 37)) base (.agg #[.int .i64 h.par.a0, .int .i64 h.par.a1, .int .i64 h.par.a2, .int .i64 h.par.a3, .int .i64 h.par.a4, .int .i64 h.par.a5, .int .i64 h.par.a6, .int .i64 h.par.a7, .int .i64 h.par.a8, .bool h.par.m, v3, v4, v5]) h.par := ⟨v3, v4, v5, rfl, owns_below k.o3 WB, owns_below k.o4 WB, owns_below k.o5 WB, a34, a35, a45⟩
  have HO : Hid _ := And.intro (owns_below k.o0 WB) (And.intro (owns_below k.o1 WB) (And.intro (owns_below k.o2 WB) PO))
  have HL : Hid _ := And.intro k.o0.lt (And.intro k.o1.lt (And.intro k.o2.lt (And.intro k.o3.lt (And.intro k.o4.lt k.o5.lt))))
  have HA : Hid _ := And.intro (And.intro a01 (And.intro a02 (And.intro a03 (And.intro a04 a05)))) (And.intro (And.intro a12 (And.intro a13 (And.intro a14 a15))) (And.intro a23 (And.intro a24 a25)))
  have AP : Hid _ := And.intro k.ap True.intro
  have HW : Hid _ := And.intro WB B0
  have EK : Hid (q + h.marksN = q + (h.rnd.length : Int) + (h.vers.length : Int) + (h.nms.length : Int) + (h.par.o.length : Int) + (h.par.t.length : Int) + (h.par.f.length : Int)) := by show _ = _; unfold HE.marksN; omega
  rw [EK.out]
  clear k WB B0 PO a01 a02 a03 a04 a05 a12 a13 a14 a15 a23 a24 a25 a34 a35 a45
  go_enter Tryz.func13, Tryz.ntmps13
  go_wp2_with fail
  go_at_call 12
  refine (markBytes q h.rnd.length base _ h.rnd _ (by omega) hq0 (by omega) HO.out.1).mono ?_
  rintro e w1 ⟨rfl, o1, b1, z1, n1⟩
  have g1 := n1.mark HW.out.2 (fun e => by have := (HL.out.1 _ e).2; omega)
  have c1 : w1.cell? ⟨w.heap.size, 3, none⟩ = some v1 := by rw [bk_cell g1]; rfl
  have H1 : Hid _ := And.intro o1 (And.intro n1 g1)
  clear o1 b1 z1 n1 g1
  go_wp2_with fail
  go_at_call 38
  refine (markInts (q + (h.rnd.length : Int)) h.vers.length base _ h.vers _ (by omega) (by omega) (by omega) (H1.out.2.1.owns HO.out.2.1 (fun g hg e => HA.out.1.1 g e.symm hg))).mono ?_
  rintro e w2 ⟨rfl, o2, b2, z2, n2⟩
  clear c1
  have g2 := n2.mark H1.out.2.2 (fun e => by have := (HL.out.2.1 _ e).2; omega)
  have c2 : w2.cell? ⟨w.heap.size, 4, none⟩ = some v2 := by rw [bk_cell g2]; rfl
  have H2 : Hid _ := And.intro o2 (And.intro n2 g2)
  clear o2 b2 z2 n2 g2
  go_wp2_with fail
  go_at_call 39
  refine (markStrs (q + (h.rnd.length : Int) + (h.vers.length : Int)) h.nms.length base _ h.nms _ rfl (by omega) (by omega) (by omega) (H2.out.2.1.owns (H1.out.2.1.owns HO.out.2.2.1 (fun g hg e => HA.out.1.2.1 g e.symm hg)) (fun g hg e => HA.out.2.1.1 g e.symm hg))).mono ?_
  rintro e w3 ⟨rfl, o3, n3⟩
  clear c2
  have hz2 : w.heap.size < w2.heap.size := (Array.getElem?_eq_some_iff.1 H2.out.2.2).1
  have g3 := (n3.block w.heap.size hz2 (fun e => by have := (HL.out.2.2.1 _ e).2; omega)).trans H2.out.2.2
  have l0 : w3.cell? ⟨w.heap.size, 5, none⟩ = some (.int .i64 h.par.a0) := by rw [bk_cell g3]; rfl
  have l1 : w3.cell? ⟨w.heap.size, 6, none⟩ = some (.int .i64 h.par.a1) := by rw [bk_cell g3]; rfl
  have l2 : w3.cell? ⟨w.heap.size, 7, none⟩ = some (.int .i64 h.par.a2) := by rw [bk_cell g3]; rfl
  have l3 : w3.cell? ⟨w.heap.size, 8, none⟩ = some (.int .i64 h.par.a3) := by rw [bk_cell g3]; rfl
  have l4 : w3.cell? ⟨w.heap.size, 9, none⟩ = some (.int .i64 h.par.a4) := by rw [bk_cell g3]; rfl
  have l5 : w3.cell? ⟨w.heap.size, 10, none⟩ = some (.int .i64 h.par.a5) := by rw [bk_cell g3]; rfl
  have l6 : w3.cell? ⟨w.heap.size, 11, none⟩ = some (.int .i64 h.par.a6) := by rw [bk_cell g3]; rfl
  have l7 : w3.cell? ⟨w.heap.size, 12, none⟩ = some (.int .i64 h.par.a7) := by rw [bk_cell g3]; rfl
  have l8 : w3.cell? ⟨w.heap.size, 13, none⟩ = some (.int .i64 h.par.a8) := by rw [bk_cell g3]; rfl
  have l9 : w3.cell? ⟨w.heap.size, 14, none⟩ = some (.bool h.par.m) := by rw [bk_cell g3]; rfl
  have l10 : w3.cell? ⟨w.heap.size, 15, none⟩ = some (v3) := by rw [bk_cell g3]; rfl
  have l11 : w3.cell? ⟨w.heap.size, 16, none⟩ = some (v4) := by rw [bk_cell g3]; rfl
  have l12 : w3.cell? ⟨w.heap.size, 17, none⟩ = some (v5) := by rw [bk_cell g3]; rfl
  have H3 : Hid _ := And.intro o3 (And.intro n3 g3)
  clear o3 n3 g3
  have P3 : PPOwns w3 base (.agg #[.int .i64 h.par.a0, .int .i64 h.par.a1, .int .i64 h.par.a2, .int .i64 h.par.a3, .int .i64 h.par.a4, .int .i64 h.par.a5, .int .i64 h.par.a6, .int .i64 h.par.a7, .int .i64 h.par.a8, .bool h.par.m, v3, v4, v5]) h.par := by
    have x1 := (only_chg H1.out.2.1).ppowns2 HO.out.2.2.2 (fun g hg e => by obtain ⟨cs, t2, t3, t4, ec, e2, e3, e4, hb⟩ := hg; cases ec; simp at e2 e3 e4; subst e2 e3 e4; rcases hb with hb | hb | hb; exact HA.out.1.2.2.1 g e hb; exact HA.out.1.2.2.2.1 g e hb; exact HA.out.1.2.2.2.2 g e hb)
    have x2 := (only_chg H2.out.2.1).ppowns2 x1 (fun g hg e => by obtain ⟨cs, t2, t3, t4, ec, e2, e3, e4, hb⟩ := hg; cases ec; simp at e2 e3 e4; subst e2 e3 e4; rcases hb with hb | hb | hb; exact HA.out.2.1.2.1 g e hb; exact HA.out.2.1.2.2.1 g e hb; exact HA.out.2.1.2.2.2 g e hb)
    exact H3.out.2.1.ppowns2 x2 (fun g hg e => by obtain ⟨cs, t2, t3, t4, ec, e2, e3, e4, hb⟩ := hg; cases ec; simp at e2 e3 e4; subst e2 e3 e4; rcases hb with hb | hb | hb; exact HA.out.2.2.1 g e hb; exact HA.out.2.2.2.1 g e hb; exact HA.out.2.2.2.2 g e hb)
  have HP3 : Hid _ := And.intro P3 True.intro
  clear P3
  go_wp2_with fail
  go_at_call 40
  refine (markPar (q + (h.rnd.length : Int) + (h.vers.length : Int) + (h.nms.length : Int)) base _ h.par _ s3 (by omega) (by omega) HP3.out.1).mono ?_
  rintro e w4 ⟨rfl, o4, n4⟩
  clear l0 l1 l2 l3 l4 l5 l6 l7 l8 l9 l10 l11 l12
  have H4 : Hid _ := And.intro o4 n4
  clear o4 n4
  go_wp2
  go_ret
  refine ⟨rfl, ?_, ?_⟩
  · have qq := PPOwns.lits H4.out.1
    have x0 := H4.out.2.owns (H3.out.2.1.owns (H2.out.2.1.owns H1.out.1 (fun g hg e => HA.out.1.1 g hg e.symm)) (fun g hg e => HA.out.1.2.1 g hg e)) (fun g hg e => by rcases ppblk_lits e with hb | hb | hb; exact HA.out.1.2.2.1 g hg hb; exact HA.out.1.2.2.2.1 g hg hb; exact HA.out.1.2.2.2.2 g hg hb)
    have x1 := H4.out.2.owns (H3.out.2.1.owns H2.out.1 (fun g hg e => HA.out.2.1.1 g hg e)) (fun g hg e => by rcases ppblk_lits e with hb | hb | hb; exact HA.out.2.1.2.1 g hg hb; exact HA.out.2.1.2.2.1 g hg hb; exact HA.out.2.1.2.2.2 g hg hb)
    have x2 := H4.out.2.owns H3.out.1 (fun g hg e => by rcases ppblk_lits e with hb | hb | hb; exact HA.out.2.2.1 g hg hb; exact HA.out.2.2.2.1 g hg hb; exact HA.out.2.2.2.2 g hg hb)
    refine ⟨v0, v1, v2, v3, v4, v5, rfl, ?_, ?_, ?_, qq.o0, qq.o1, qq.o2, AP.out.1⟩
    · show w4.ownsRow base 5 1 v0 (marks q h.rnd.length).length _
      rw [marks_length]; exact x0
    · show w4.ownsRow base 3 1 v1 (marksI (q + (h.rnd.length : Int)) h.vers.length).length _
      rw [marksI_length]; exact x1
    · show w4.ownsRow base 9 1 v2 (marksT (q + (h.rnd.length : Int) + (h.vers.length : Int)) h.nms.length).length _
      rw [marksT_length]; exact x2
  · refine (Chg.of_below HW.out.1).trans (((only_chg H1.out.2.1).sub ?_).trans (((only_chg H2.out.2.1).sub ?_).trans ((H3.out.2.1.sub ?_).trans (H4.out.2.sub ?_))))
    · exact fun g e => ⟨_, rfl, 2, v0, by simp, rfl, e⟩
    · exact fun g e => ⟨_, rfl, 3, v1, by simp, rfl, e⟩
    · exact fun g e => ⟨_, rfl, 4, v2, by simp, rfl, e⟩
    · intro g e
      rcases ppblk_lits e with hb | hb | hb
      · exact ⟨_, rfl, 15, v3, by simp, rfl, hb⟩
      · exact ⟨_, rfl, 16, v4, by simp, rfl, hb⟩
      · exact ⟨_, rfl, 17, v5, by simp, rfl, hb⟩
end Go.Proofs.YteggfkekgdlecaaGreatDoor

namespace Go.Proofs.YteggfkekgdlecaaGreatDoor
open Go.RowKit
set_option linter.unusedVariables false

def AG.small (z : AG) (n : Nat) : Prop := z.c1.length ≤ n ∧ z.s1.length ≤ n ∧ z.c2.length ≤ n ∧ z.s2.length ≤ n ∧ z.ck.length ≤ n
/-- An agreement to be read. -/
def AGRow (w : World) (v : Value) (z : AG) : Prop := ∃ v0 v1 v2 v3 v4, v = .agg #[.int .i64 z.vr, .string z.nm, v0, v1, v2, v3, v4] ∧ Row w .u8 v0 z.c1 ∧ Row w .u8 v1 z.s1 ∧ Row w .u8 v2 z.c2 ∧ Row w .u8 v3 z.s2 ∧ Row w .u8 v4 z.ck
theorem AGOwns.row {w : World} {base : Nat} {v : Value} {z : AG} (k : AGOwns w base v z) : AGRow w v z := by
  obtain ⟨v0, v1, v2, v3, v4, e, q⟩ := k
  exact ⟨v0, v1, v2, v3, v4, e, row_of_owns q.o0, row_of_owns q.o1, row_of_owns q.o2, row_of_owns q.o3, row_of_owns q.o4⟩
theorem AGRow.below {w w' : World} {v : Value} {z : AG} (k : AGRow w v z) (hb : Below w.heap.size w w') : AGRow w' v z := by
  obtain ⟨v0, v1, v2, v3, v4, e, q0, q1, q2, q3, q4⟩ := k
  exact ⟨v0, v1, v2, v3, v4, e, q0.below hb, q1.below hb, q2.below hb, q3.below hb, q4.below hb⟩
theorem bb_self (x : ByteArray) : (x == x) = true := by show (x.data == x.data) = true; exact beq_self_eq_true _
theorem bl_self (x : ByteArray) : (x.toList == x.toList) = true := beq_self_eq_true _

set_option maxHeartbeats 1000000 in
theorem eqAg_same (va vb : Value) (z : AG) (w : World) (ha : AGRow w va z) (hb : AGRow w vb z) (hs : z.small 140737488355328) :
    Calls Tryz.prog 9 #[va, vb] w fun e w' => e = .returned (.bool true) ∧ Below w.heap.size w w' := by
  obtain ⟨u0, u1, u2, u3, u4, rfl, p0, p1, p2, p3, p4⟩ := ha
  obtain ⟨v0, v1, v2, v3, v4, rfl, q0, q1, q2, q3, q4⟩ := hb
  obtain ⟨N, eN⟩ : ∃ N, N = z.nm := ⟨_, rfl⟩
  obtain ⟨V, eV⟩ : ∃ V, V = z.vr := ⟨_, rfl⟩
  rw [← eN, ← eV]
  clear eN eV
  have t1 := bb_self N
  have t2 := bl_self N
  have t3 : (V != V) = false := by simp
  have WB : ∀ (o1 o2 : Obj) (n : Nat), Below w.heap.size w (((w.alloc o1).alloc o2).drewN n) := fun o1 o2 n => below_drewN (((Below.refl _ _).alloc (Nat.le_refl _) o1).alloc (by simp) o2) n
  have WB0 : ∀ (o1 o2 : Obj), Below w.heap.size w ((w.alloc o1).alloc o2) := fun o1 o2 => ((Below.refl _ _).alloc (Nat.le_refl _) o1).alloc (by simp) o2
  have HH : Hid _ := And.intro (And.intro p0 (And.intro p1 (And.intro p2 (And.intro p3 p4)))) (And.intro (And.intro q0 (And.intro q1 (And.intro q2 (And.intro q3 q4)))) (And.intro hs (And.intro WB WB0)))
  clear p0 p1 p2 p3 p4 q0 q1 q2 q3 q4 hs WB WB0
  go_enter Tryz.func9, Tryz.ntmps9
  go_wp2_with fail
  go_at_call 10
  refine (eqBytes_same _ _ z.c1 _ (HH.out.1.1.below (HH.out.2.2.2.2 _ _)) (HH.out.2.1.1.below (HH.out.2.2.2.2 _ _)) HH.out.2.2.1.1).mono ?_
  rintro e w0 ⟨rfl, m0, rfl⟩
  go_wp2_with fail
  go_at_call 10
  refine (eqBytes_same _ _ z.s1 _ (HH.out.1.2.1.below (HH.out.2.2.2.1 _ _ _)) (HH.out.2.1.2.1.below (HH.out.2.2.2.1 _ _ _)) HH.out.2.2.1.2.1).mono ?_
  rintro e w1 ⟨rfl, m1, rfl⟩
  go_wp2_with fail
  go_at_call 10
  refine (eqBytes_same _ _ z.c2 _ (HH.out.1.2.2.1.below (HH.out.2.2.2.1 _ _ _)) (HH.out.2.1.2.2.1.below (HH.out.2.2.2.1 _ _ _)) HH.out.2.2.1.2.2.1).mono ?_
  rintro e w2 ⟨rfl, m2, rfl⟩
  go_wp2_with fail
  go_at_call 10
  refine (eqBytes_same _ _ z.s2 _ (HH.out.1.2.2.2.1.below (HH.out.2.2.2.1 _ _ _)) (HH.out.2.1.2.2.2.1.below (HH.out.2.2.2.1 _ _ _)) HH.out.2.2.1.2.2.2.1).mono ?_
  rintro e w3 ⟨rfl, m3, rfl⟩
  go_wp2_with fail
  go_at_call 10
  refine (eqBytes_same _ _ z.ck _ (HH.out.1.2.2.2.2.below (HH.out.2.2.2.1 _ _ _)) (HH.out.2.1.2.2.2.2.below (HH.out.2.2.2.1 _ _ _)) HH.out.2.2.1.2.2.2.2).mono ?_
  rintro e w4 ⟨rfl, m4, rfl⟩
  go_wp2
  go_ret
  exact ⟨rfl, HH.out.2.2.2.1 _ _ _⟩
/-- What the marks leave of it. -/
def AG.marked (z : AG) (q : Int) : AG := ⟨z.vr, z.nm, marks q z.c1.length, marks (q + (z.c1.length : Int)) z.s1.length, marks (q + (z.c1.length : Int) + (z.s1.length : Int)) z.c2.length, marks (q + (z.c1.length : Int) + (z.s1.length : Int) + (z.c2.length : Int)) z.s2.length, marks (q + (z.c1.length : Int) + (z.s1.length : Int) + (z.c2.length : Int) + (z.s2.length : Int)) z.ck.length⟩
def AG.marksN (z : AG) : Int := (z.c1.length : Int) + (z.s1.length : Int) + (z.c2.length : Int) + (z.s2.length : Int) + (z.ck.length : Int)
set_option maxHeartbeats 2000000 in
theorem markAg (q : Int) (base : Nat) (v : Value) (k : AG) (w : World) (hs : k.small 1048576) (hq0 : 0 ≤ q) (hq1 : q ≤ 140737400000000) (ho : AGOwns w base v k) :
    Calls Tryz.prog 14 #[v, .int .i64 q] w fun e w' => e = .returned (.int .i64 (q + (k.c1.length : Int) + (k.s1.length : Int) + (k.c2.length : Int) + (k.s2.length : Int) + (k.ck.length : Int))) ∧ AGOwns w' base v (k.marked q) ∧ Chg (AGBlk v) w w' := by
  obtain ⟨v0, v1, v2, v3, v4, rfl, q0⟩ := ho
  obtain ⟨s0, s1, s2, s3, s4⟩ := hs
  obtain ⟨n0, e0⟩ : ∃ n, n = k.c1.length := ⟨_, rfl⟩
  obtain ⟨n1, e1⟩ : ∃ n, n = k.s1.length := ⟨_, rfl⟩
  obtain ⟨n2, e2⟩ : ∃ n, n = k.c2.length := ⟨_, rfl⟩
  obtain ⟨n3, e3⟩ : ∃ n, n = k.s2.length := ⟨_, rfl⟩
  obtain ⟨n4, e4⟩ : ∃ n, n = k.ck.length := ⟨_, rfl⟩
  obtain ⟨V, eV⟩ : ∃ V, V = k.vr := ⟨_, rfl⟩
  obtain ⟨M, eM⟩ : ∃ M, M = k.nm := ⟨_, rfl⟩
  have EK : Hid (k.marked q = ⟨V, M, marks q n0, marks (q + (n0 : Int)) n1, marks (q + (n0 : Int) + (n1 : Int)) n2, marks (q + (n0 : Int) + (n1 : Int) + (n2 : Int)) n3, marks (q + (n0 : Int) + (n1 : Int) + (n2 : Int) + (n3 : Int)) n4⟩) := by rw [e0, e1, e2, e3, e4, eV, eM]; rfl
  have ap := q0.ap
  simp only [List.pairwise_cons, List.mem_cons, List.not_mem_nil, or_false, forall_eq_or_imp, forall_eq] at ap
  have HA : Hid _ := And.intro ap True.intro
  have HP : Hid _ := And.intro q0.ap True.intro
  have HQ : Hid _ := q0
  have EN : Hid _ := And.intro e0 (And.intro e1 (And.intro e2 (And.intro e3 (And.intro e4 (And.intro eV eM)))))
  rw [← e0] at s0 ⊢
  rw [← e1] at s1 ⊢
  rw [← e2] at s2 ⊢
  rw [← e3] at s3 ⊢
  rw [← e4] at s4 ⊢
  rw [← eV, ← eM]
  clear e0 e1 e2 e3 e4 eV eM q0 ap
  have B0 : (w.alloc (.cells #[.int .i64 V, .string M, v0, v1, v2, v3, v4] 31)).heap[w.heap.size]? = some (.cells #[.int .i64 V, .string M, v0, v1, v2, v3, v4] 31 (0, 0)) := (MapKept.heap_alloc w _).1
  have HB0 : Hid _ := B0
  have WB : Hid (Below w.heap.size w (w.alloc (.cells #[.int .i64 V, .string M, v0, v1, v2, v3, v4] 31))) := (Below.refl _ _).alloc (Nat.le_refl _) _
  clear B0
  go_enter Tryz.func14, Tryz.ntmps14
  go_wp2_with fail
  go_at_call 12
  refine (markBytes q n0 base _ k.c1 _ (by omega) hq0 (by omega) (by have := owns_below HQ.out.o0 WB.out; rw [← EN.out.1] at this; exact this)).mono ?_
  rintro e w1 ⟨rfl, o1, b1, z1, n1'⟩
  have B1 := n1'.mark HB0.out (fun e => by have := (HQ.out.o0.lt _ e).2; omega)
  have c1 : w1.cell? ⟨w.heap.size, 3, none⟩ = some v1 := by rw [bk_cell B1]; rfl
  have H1 : Hid _ := And.intro B1 (And.intro o1 n1')
  clear B1 o1 n1' b1 z1
  go_wp2_with fail
  go_at_call 12
  refine (markBytes (q + (n0 : Int)) n1 base _ k.s1 _ (by omega) (by omega) (by omega) (by have := H1.out.2.2.owns (owns_below HQ.out.o1 WB.out) (fun g hg e => HA.out.1.1.1 g e.symm hg); rw [← EN.out.2.1] at this; exact this)).mono ?_
  rintro e w2 ⟨rfl, o2, b2, z2, n2'⟩
  have B2 := n2'.mark H1.out.1 (fun e => by have := (HQ.out.o1.lt _ e).2; omega)
  have c2 : w2.cell? ⟨w.heap.size, 4, none⟩ = some v2 := by rw [bk_cell B2]; rfl
  have H2 : Hid _ := And.intro B2 (And.intro o2 n2')
  clear B2 o2 n2' b2 z2
  go_wp2_with fail
  go_at_call 12
  refine (markBytes (q + (n0 : Int) + (n1 : Int)) n2 base _ k.c2 _ (by omega) (by omega) (by omega) (by have := H2.out.2.2.owns (H1.out.2.2.owns (owns_below HQ.out.o2 WB.out) (fun g hg e => HA.out.1.1.2.1 g e.symm hg)) (fun g hg e => HA.out.1.2.1.1 g e.symm hg); rw [← EN.out.2.2.1] at this; exact this)).mono ?_
  rintro e w3 ⟨rfl, o3, b3, z3, n3'⟩
  have B3 := n3'.mark H2.out.1 (fun e => by have := (HQ.out.o2.lt _ e).2; omega)
  have c3 : w3.cell? ⟨w.heap.size, 5, none⟩ = some v3 := by rw [bk_cell B3]; rfl
  have H3 : Hid _ := And.intro B3 (And.intro o3 n3')
  clear B3 o3 n3' b3 z3
  go_wp2_with fail
  go_at_call 12
  refine (markBytes (q + (n0 : Int) + (n1 : Int) + (n2 : Int)) n3 base _ k.s2 _ (by omega) (by omega) (by omega) (by have := H3.out.2.2.owns (H2.out.2.2.owns (H1.out.2.2.owns (owns_below HQ.out.o3 WB.out) (fun g hg e => HA.out.1.1.2.2.1 g e.symm hg)) (fun g hg e => HA.out.1.2.1.2.1 g e.symm hg)) (fun g hg e => HA.out.1.2.2.1.1 g e.symm hg); rw [← EN.out.2.2.2.1] at this; exact this)).mono ?_
  rintro e w4 ⟨rfl, o4, b4, z4, n4'⟩
  have B4 := n4'.mark H3.out.1 (fun e => by have := (HQ.out.o3.lt _ e).2; omega)
  have c4 : w4.cell? ⟨w.heap.size, 6, none⟩ = some v4 := by rw [bk_cell B4]; rfl
  have H4 : Hid _ := And.intro B4 (And.intro o4 n4')
  clear B4 o4 n4' b4 z4
  go_wp2_with fail
  go_at_call 12
  refine (markBytes (q + (n0 : Int) + (n1 : Int) + (n2 : Int) + (n3 : Int)) n4 base _ k.ck _ (by omega) (by omega) (by omega) (by have := H4.out.2.2.owns (H3.out.2.2.owns (H2.out.2.2.owns (H1.out.2.2.owns (owns_below HQ.out.o4 WB.out) (fun g hg e => HA.out.1.1.2.2.2 g e.symm hg)) (fun g hg e => HA.out.1.2.1.2.2 g e.symm hg)) (fun g hg e => HA.out.1.2.2.1.2 g e.symm hg)) (fun g hg e => HA.out.1.2.2.2.1 g e.symm hg); rw [← EN.out.2.2.2.2.1] at this; exact this)).mono ?_
  rintro e w5 ⟨rfl, o5, b5, z5, n5'⟩
  have H5 : Hid _ := And.intro o5 n5'
  clear o5 n5' b5 z5
  go_wp2
  go_ret
  refine ⟨rfl, ⟨v0, v1, v2, v3, v4, ?_, ?_⟩, ?_⟩
  · rw [EK.out]
  · rw [EK.out]
    have x0 := H5.out.2.owns (H4.out.2.2.owns (H3.out.2.2.owns (H2.out.2.2.owns H1.out.2.1 (fun g hg e => HA.out.1.1.1 g hg e.symm)) (fun g hg e => HA.out.1.1.2.1 g hg e.symm)) (fun g hg e => HA.out.1.1.2.2.1 g hg e.symm)) (fun g hg e => HA.out.1.1.2.2.2 g hg e.symm)
    have x1 := H5.out.2.owns (H4.out.2.2.owns (H3.out.2.2.owns H2.out.2.1 (fun g hg e => HA.out.1.2.1.1 g hg e.symm)) (fun g hg e => HA.out.1.2.1.2.1 g hg e.symm)) (fun g hg e => HA.out.1.2.1.2.2 g hg e.symm)
    have x2 := H5.out.2.owns (H4.out.2.2.owns H3.out.2.1 (fun g hg e => HA.out.1.2.2.1.1 g hg e.symm)) (fun g hg e => HA.out.1.2.2.1.2 g hg e.symm)
    have x3 := H5.out.2.owns H4.out.2.1 (fun g hg e => HA.out.1.2.2.2.1 g hg e.symm)
    exact ⟨by rw [marks_length]; exact x0, by rw [marks_length]; exact x1, by rw [marks_length]; exact x2, by rw [marks_length]; exact x3, by rw [marks_length]; exact H5.out.1, HP.out.1⟩
  · refine (Chg.of_below WB.out).trans ((Chg.of_only H1.out.2.2 ?_).trans ((Chg.of_only H2.out.2.2 ?_).trans ((Chg.of_only H3.out.2.2 ?_).trans ((Chg.of_only H4.out.2.2 ?_).trans (Chg.of_only H5.out.2 ?_)))))
    · exact fun g e => ⟨_, rfl, 2, v0, by simp, rfl, e⟩
    · exact fun g e => ⟨_, rfl, 3, v1, by simp, rfl, e⟩
    · exact fun g e => ⟨_, rfl, 4, v2, by simp, rfl, e⟩
    · exact fun g e => ⟨_, rfl, 5, v3, by simp, rfl, e⟩
    · exact fun g e => ⟨_, rfl, 6, v4, by simp, rfl, e⟩
set_option maxHeartbeats 2000000 in
theorem heldAg (q : Int) (v : Value) (k : AG) (w : World) (hs : k.small 1048576) (hq0 : 0 ≤ q) (hq1 : q ≤ 140737400000000) (ho : AGRow w v (k.marked q)) :
    Calls Tryz.prog 15 #[v, .int .i64 q] w fun e w' => e = .returned (.int .i64 (q + (k.c1.length : Int) + (k.s1.length : Int) + (k.c2.length : Int) + (k.s2.length : Int) + (k.ck.length : Int))) ∧ Below w.heap.size w w' := by
  obtain ⟨v0, v1, v2, v3, v4, rfl, r0, r1, r2, r3, r4⟩ := ho
  obtain ⟨s0, s1, s2, s3, s4⟩ := hs
  obtain ⟨V, eV⟩ : ∃ V, V = (k.marked q).vr := ⟨_, rfl⟩
  obtain ⟨M, eM⟩ : ∃ M, M = (k.marked q).nm := ⟨_, rfl⟩
  rw [← eV, ← eM]
  clear eV eM
  unfold AG.marked at r0 r1 r2 r3 r4
  generalize k.c1.length = n0 at *
  generalize k.s1.length = n1 at *
  generalize k.c2.length = n2 at *
  generalize k.s2.length = n3 at *
  generalize k.ck.length = n4 at *
  have WB : Below w.heap.size w (w.alloc (.cells #[.int .i64 V, .string M, v0, v1, v2, v3, v4] 31)) := (Below.refl _ _).alloc (Nat.le_refl _) _
  have h0 := heldBytes q n0 v0 _ (r0.below WB) (by omega) hq0 (by omega)
  have h1 := heldBytes (q + (n0 : Int)) n1 v1 _ (r1.below WB) (by omega) (by omega) (by omega)
  have h2 := heldBytes (q + (n0 : Int) + (n1 : Int)) n2 v2 _ (r2.below WB) (by omega) (by omega) (by omega)
  have h3 := heldBytes (q + (n0 : Int) + (n1 : Int) + (n2 : Int)) n3 v3 _ (r3.below WB) (by omega) (by omega) (by omega)
  have h4 := heldBytes (q + (n0 : Int) + (n1 : Int) + (n2 : Int) + (n3 : Int)) n4 v4 _ (r4.below WB) (by omega) (by omega) (by omega)
  have HW : Hid _ := WB
  clear r0 r1 r2 r3 r4 WB
  go_enter Tryz.func15, Tryz.ntmps15
  go_wp2_with fail
  go_at_call 41
  refine h0.mono ?_
  rintro e w1 ⟨rfl, rfl⟩
  go_wp2_with fail
  go_at_call 41
  refine h1.mono ?_
  rintro e w1 ⟨rfl, rfl⟩
  go_wp2_with fail
  go_at_call 41
  refine h2.mono ?_
  rintro e w1 ⟨rfl, rfl⟩
  go_wp2_with fail
  go_at_call 41
  refine h3.mono ?_
  rintro e w1 ⟨rfl, rfl⟩
  go_wp2_with fail
  go_at_call 41
  refine h4.mono ?_
  rintro e w1 ⟨rfl, rfl⟩
  go_wp2
  go_ret
  exact ⟨rfl, HW.out⟩
end Go.Proofs.YteggfkekgdlecaaGreatDoor

namespace Go.Proofs.YteggfkekgdlecaaGreatDoor
open Go.RowKit
set_option linter.unusedVariables false

theorem and_mask (n k : Nat) (hn : n < 18446744073709551616) (hk : k ≤ 63) : bits .and .u64 (n : Int) ((2 ^ k - 1 : Nat) : Int) = ((n % 2 ^ k : Nat) : Int) := by
  have h2 : 2 ^ k - 1 < 18446744073709551616 := by
    have : 2 ^ k ≤ 2 ^ 63 := Nat.pow_le_pow_right (by decide) hk
    have e : (2 : Nat) ^ 63 = 9223372036854775808 := by decide
    omega
  have hm : n % 2 ^ k < 18446744073709551616 := Nat.lt_of_le_of_lt (Nat.mod_le _ _) hn
  have e1 : (BitVec.ofInt IntKind.u64.bits (n : Int)).toNat = n := by
    show (BitVec.ofInt 64 (n : Int)).toNat = n
    rw [BitVec.ofInt_natCast, BitVec.toNat_ofNat]
    exact Nat.mod_eq_of_lt hn
  have e2 : (BitVec.ofInt IntKind.u64.bits ((2 ^ k - 1 : Nat) : Int)).toNat = 2 ^ k - 1 := by
    show (BitVec.ofInt 64 ((2 ^ k - 1 : Nat) : Int)).toNat = 2 ^ k - 1
    rw [BitVec.ofInt_natCast, BitVec.toNat_ofNat]
    exact Nat.mod_eq_of_lt h2
  show IntKind.u64.wrap (((BitVec.ofInt IntKind.u64.bits (n : Int)) &&& (BitVec.ofInt IntKind.u64.bits ((2 ^ k - 1 : Nat) : Int))).toNat : Int) = _
  rw [BitVec.toNat_and, e1, e2, Nat.and_two_pow_sub_one_eq_mod]
  generalize n % 2 ^ k = m at hm
  simp [IntKind.wrap, IntKind.bits, IntKind.signed]
  omega
theorem vals_lt8 (ys : List Int) (hb : Bytes ys) (h : ys.length ≤ 8) : vals ys < 18446744073709551616 := by
  have h1 := vals_lt ys hb
  have hn : (256 : Nat) ^ ys.length ≤ 256 ^ 8 := Nat.pow_le_pow_right (by decide) h
  generalize ys.length = m at h1 hn
  have e1 : ((256 ^ m : Nat) : Int) = (256 : Int) ^ m := Int.natCast_pow 256 m
  have e : (256 : Nat) ^ 8 = 18446744073709551616 := by decide
  rw [e] at hn
  rw [← e1] at h1
  omega
theorem mask_of (s m : Int) (k : Nat) (h0 : 0 ≤ s) (h1 : s < 18446744073709551616) (hk : k ≤ 63) (hm : m = ((2 ^ k - 1 : Nat) : Int)) : bits .and .u64 s m = s % ((2 ^ k : Nat) : Int) := by
  obtain ⟨n, rfl⟩ := Int.eq_ofNat_of_zero_le h0
  subst hm
  rw [and_mask n k (by omega) hk]
  exact Int.natCast_emod n (2 ^ k)
theorem vals_1 (ys : List Int) (h : ys.length = 1) : vals ys = ys.getD 0 0 := by
  match ys, h with
  | [a], _ => simp [vals, List.getD]
theorem low_1 (x0 : Int) (l0 : 0 ≤ x0) (u0 : x0 < 256) (hf : x0 / 64 = 0) : (x0) % 64 = x0 % 64 := by omega
theorem vals_2 (ys : List Int) (h : ys.length = 2) : vals ys = ys.getD 0 0 * 256 + ys.getD 1 0 := by
  match ys, h with
  | [a, b], _ => simp [vals, List.getD]
theorem low_2 (x0 x1 : Int) (l0 : 0 ≤ x0) (u0 : x0 < 256) (l1 : 0 ≤ x1) (u1 : x1 < 256) (hf : x0 / 64 = 1) : (x0 * 256 + x1) % 16384 = x0 % 64 * 256 + x1 := by omega
theorem vals_4 (ys : List Int) (h : ys.length = 4) : vals ys = ((ys.getD 0 0 * 256 + ys.getD 1 0) * 256 + ys.getD 2 0) * 256 + ys.getD 3 0 := by
  match ys, h with
  | [a, b, c, d], _ => simp [vals, List.getD]
theorem low_4 (x0 x1 x2 x3 : Int) (l0 : 0 ≤ x0) (u0 : x0 < 256) (l1 : 0 ≤ x1) (u1 : x1 < 256) (l2 : 0 ≤ x2) (u2 : x2 < 256) (l3 : 0 ≤ x3) (u3 : x3 < 256) (hf : x0 / 64 = 2) : (((x0 * 256 + x1) * 256 + x2) * 256 + x3) % 1073741824 = ((x0 % 64 * 256 + x1) * 256 + x2) * 256 + x3 := by omega
theorem vals_8 (ys : List Int) (h : ys.length = 8) : vals ys = ((((((ys.getD 0 0 * 256 + ys.getD 1 0) * 256 + ys.getD 2 0) * 256 + ys.getD 3 0) * 256 + ys.getD 4 0) * 256 + ys.getD 5 0) * 256 + ys.getD 6 0) * 256 + ys.getD 7 0 := by
  match ys, h with
  | [a, b, c, d, e, f, g, h], _ => simp [vals, List.getD]
theorem low_8 (x0 x1 x2 x3 x4 x5 x6 x7 : Int) (l0 : 0 ≤ x0) (u0 : x0 < 256) (l1 : 0 ≤ x1) (u1 : x1 < 256) (l2 : 0 ≤ x2) (u2 : x2 < 256) (l3 : 0 ≤ x3) (u3 : x3 < 256) (l4 : 0 ≤ x4) (u4 : x4 < 256) (l5 : 0 ≤ x5) (u5 : x5 < 256) (l6 : 0 ≤ x6) (u6 : x6 < 256) (l7 : 0 ≤ x7) (u7 : x7 < 256) (hf : x0 / 64 = 3) : (((((((x0 * 256 + x1) * 256 + x2) * 256 + x3) * 256 + x4) * 256 + x5) * 256 + x6) * 256 + x7) % 4611686018427387904 = ((((((x0 % 64 * 256 + x1) * 256 + x2) * 256 + x3) * 256 + x4) * 256 + x5) * 256 + x6) * 256 + x7 := by omega
def gvn (x : Int) : Nat := if x / 64 = 0 then 1 else if x / 64 = 1 then 2 else if x / 64 = 2 then 4 else 8
def gvm (x : Int) : Int := if x / 64 = 0 then 64 else if x / 64 = 1 then 16384 else if x / 64 = 2 then 1073741824 else 4611686018427387904
/-- What stands at a place: the number, the place behind it, the code. -/
def gv (xs : List Int) (a : Int) : Int × Int × Int :=
  if 65536 < xs.length then (0, 0, 4) else if a < 0 ∨ (xs.length : Int) < a then (0, 0, 1) else if a = xs.length then (0, 0, 2)
  else if xs.length < a.toNat + gvn (xs.getD a.toNat 0) then (0, 0, 2)
  else (vals ((xs.drop a.toNat).take (gvn (xs.getD a.toNat 0))) % gvm (xs.getD a.toNat 0), a + gvn (xs.getD a.toNat 0), 0)
theorem sub_at (xs : List Int) (a m j : Nat) (h : j < m) : ((xs.drop a).take m).getD j 0 = xs.getD (a + j) 0 := by simp [List.getD, h]
theorem sub_length (xs : List Int) (a m : Nat) (h : a + m ≤ xs.length) : ((xs.drop a).take m).length = m := by rw [List.length_take, List.length_drop]; omega
theorem gv_form (x : Int) (h0 : 0 ≤ x) (h1 : x < 256) : (x / 64 = 0 ∧ gvn x = 1 ∧ gvm x = 64) ∨ (x / 64 = 1 ∧ gvn x = 2 ∧ gvm x = 16384) ∨ (x / 64 = 2 ∧ gvn x = 4 ∧ gvm x = 1073741824) ∨ (x / 64 = 3 ∧ gvn x = 8 ∧ gvm x = 4611686018427387904) := by
  have : x / 64 = 0 ∨ x / 64 = 1 ∨ x / 64 = 2 ∨ x / 64 = 3 := by omega
  rcases this with h | h | h | h
  · exact Or.inl ⟨h, by unfold gvn; rw [if_pos h], by unfold gvm; rw [if_pos h]⟩
  · exact Or.inr (Or.inl ⟨h, by unfold gvn; rw [if_neg (by omega), if_pos h], by unfold gvm; rw [if_neg (by omega), if_pos h]⟩)
  · exact Or.inr (Or.inr (Or.inl ⟨h, by unfold gvn; rw [if_neg (by omega), if_neg (by omega), if_pos h], by unfold gvm; rw [if_neg (by omega), if_neg (by omega), if_pos h]⟩))
  · exact Or.inr (Or.inr (Or.inr ⟨h, by unfold gvn; rw [if_neg (by omega), if_neg (by omega), if_neg (by omega)], by unfold gvm; rw [if_neg (by omega), if_neg (by omega), if_neg (by omega)]⟩))
theorem gvn_bd (x : Int) : 1 ≤ gvn x ∧ gvn x ≤ 8 := by
  unfold gvn; split <;> (try split) <;> (try split) <;> omega
theorem gv_short (xs : List Int) (i : Nat) (h : xs.length ≤ 65536) (hi : i < xs.length) (hs : xs.length < i + gvn (xs.getD i 0)) : gv xs i = (0, 0, 2) := by
  unfold gv
  rw [if_neg (by omega), if_neg (by omega), if_neg (by omega), Int.toNat_natCast, if_pos hs]
theorem gv_ok (xs : List Int) (i : Nat) (h : xs.length ≤ 65536) (hi : i < xs.length) (hs : i + gvn (xs.getD i 0) ≤ xs.length) :
    gv xs i = (vals ((xs.drop i).take (gvn (xs.getD i 0))) % gvm (xs.getD i 0), (i : Int) + gvn (xs.getD i 0), 0) := by
  unfold gv
  rw [if_neg (by omega), if_neg (by omega), if_neg (by omega), Int.toNat_natCast, if_neg (by omega)]
end Go.Proofs.YteggfkekgdlecaaGreatDoor

namespace Go.Proofs.YteggfkekgdlecaaGreatDoor
open Go.RowKit
set_option linter.unusedVariables false

theorem first_bad (p : Nat → Prop) : ∀ n : Nat, (∀ j, j < n → p j) ∨ ∃ q, q < n ∧ (∀ j, j < q → p j) ∧ ¬ p q := by
  intro n
  induction n with
  | zero => exact Or.inl (fun j h => by omega)
  | succ n ih =>
    rcases ih with h | ⟨q, hq, h1, h2⟩
    · by_cases hp : p n
      · left
        intro j hj
        by_cases e : j = n
        · subst e; exact hp
        · exact h j (by omega)
      · exact Or.inr ⟨n, by omega, h, hp⟩
    · exact Or.inr ⟨q, by omega, h1, h2⟩

/-- Whether every number has a form. -/
def allok (xs : List Int) : Prop := ∀ j, j < xs.length → okv (xs.getD j 0)
def allokB (xs : List Int) : Bool := xs.all fun x => decide (0 ≤ x) && decide (x ≤ 4611686018427387903)
theorem allokB_iff (xs : List Int) : allokB xs = true ↔ allok xs := by
  unfold allokB
  rw [List.all_eq_true]
  constructor
  · intro h j hj
    have := h (xs[j]) (List.getElem_mem hj)
    simp only [Bool.and_eq_true, decide_eq_true_eq] at this
    have e : xs.getD j 0 = xs[j] := by simp [List.getD, hj]
    rw [e]
    exact this
  · intro h x hx
    obtain ⟨j, hj, rfl⟩ := List.getElem_of_mem hx
    have := h j hj
    have e : xs.getD j 0 = xs[j] := by simp [List.getD, hj]
    rw [e] at this
    simp only [Bool.and_eq_true, decide_eq_true_eq]
    exact this
def pcode (xs : List Int) : Int := if 4096 < xs.length then 4 else if allokB xs = true then 0 else 1
def plist (xs : List Int) : List Int := if 4096 < xs.length then [] else if allokB xs = true then cat xs xs.length else []

theorem p_long (xs : List Int) (h : 4096 < xs.length) : pcode xs = 4 ∧ plist xs = [] := by
  unfold pcode plist; rw [if_pos h, if_pos h]; exact ⟨rfl, rfl⟩
theorem p_ok (xs : List Int) (h : xs.length ≤ 4096) (ha : allok xs) : pcode xs = 0 ∧ plist xs = cat xs xs.length := by
  have h' : ¬ 4096 < xs.length := by omega
  have hb := (allokB_iff xs).2 ha
  simp only [pcode, plist, if_neg h', if_pos hb]; exact ⟨trivial, trivial⟩
theorem p_no (xs : List Int) (h : xs.length ≤ 4096) (ha : ¬ allok xs) : pcode xs = 1 ∧ plist xs = [] := by
  have h' : ¬ 4096 < xs.length := by omega
  have hb : ¬ allokB xs = true := fun h => ha ((allokB_iff xs).1 h)
  simp only [pcode, plist, if_neg h', if_neg hb]; exact ⟨trivial, trivial⟩
theorem plist_length (xs : List Int) : (plist xs).length ≤ 32776 := by
  by_cases h : 4096 < xs.length
  · rw [(p_long xs h).2]; simp
  · by_cases ha : allok xs
    · rw [(p_ok xs (by omega) ha).2]
      have := cat_length xs xs.length ⟨by omega, by omega⟩ (Nat.le_refl _) ha
      omega
    · rw [(p_no xs (by omega) ha).2]; simp

end Go.Proofs.YteggfkekgdlecaaGreatDoor

namespace Go.Proofs.YteggfkekgdlecaaGreatDoor
open Go.RowKit
set_option linter.unusedVariables false

theorem set_head (l : List Int) (y : Int) (h : 0 < l.length) : (l.set 0 y).getD 0 0 = y := by
  simp [List.getD, h]
theorem set_tail (l : List Int) (y : Int) (j : Nat) : (l.set 0 y).getD (j + 1) 0 = l.getD (j + 1) 0 := by
  simp [List.getD]

theorem putv_eq_1 (v : Int) (h0 : 0 ≤ v) (h1 : v ≤ 63) : putv v = (be v 1).set 0 ((be v 1).getD 0 0 + 0) := by
  have := putv_1 v h0 h1
  unfold putv
  rw [this.1, this.2.1]
  rfl
theorem put_len_1 (v : Int) (h0 : 0 ≤ v) (h1 : v ≤ 63) : (putv v).length = 1 := by rw [putv_eq_1 v h0 h1, List.length_set, be_length]
theorem put_1_0 (v : Int) (h0 : 0 ≤ v) (h1 : v ≤ 63) : (putv v).getD 0 0 = v / 1 % 256 + 0 := by
  rw [putv_eq_1 v h0 h1, set_head _ _ (by rw [be_length]; decide), be_at v 1 0 (by decide)]
  rfl
theorem head_form_1 (v : Int) (h0 : 0 ≤ v) (h1 : v ≤ 63) : (putv v).getD 0 0 / 64 = 0 ∧ 0 ≤ (putv v).getD 0 0 ∧ (putv v).getD 0 0 < 256 := by
  rw [put_1_0 v h0 h1]
  omega
theorem back_1 (v : Int) (h0 : 0 ≤ v) (h1 : v ≤ 63) : vals (putv v) % 64 = v := by
  rw [vals_1 _ (put_len_1 v h0 h1), put_1_0 v h0 h1]
  omega
theorem at_1_0 (x0 v : Int) (l0 : 0 ≤ x0) (u0 : x0 < 256) (hf : x0 / 64 = 0) (hv : v = x0 % 64) : v / 1 % 256 + 0 = x0 := by omega
theorem same_1 (ys : List Int) (v : Int) (hl : ys.length = 1) (hB : Bytes ys) (hf : ys.getD 0 0 / 64 = 0) (hv : v = vals ys % 64) (h0 : 0 ≤ v) (h1 : v ≤ 63) : ys = putv v := by
  have e := low_1 _ (hB.at 0).1 (hB.at 0).2 hf
  rw [vals_1 ys hl, e] at hv
  refine list_eq_of_getD hl (put_len_1 v h0 h1) (fun j hj => ?_)
  have hj' : j = 0 := by omega
  rcases hj' with rfl
  · rw [put_1_0 v h0 h1, at_1_0 _ v (hB.at 0).1 (hB.at 0).2 hf hv]

theorem putv_eq_2 (v : Int) (h0 : 64 ≤ v) (h1 : v ≤ 16383) : putv v = (be v 2).set 0 ((be v 2).getD 0 0 + 64) := by
  have := putv_2 v h0 h1
  unfold putv
  rw [this.1, this.2.1]
  rfl
theorem put_len_2 (v : Int) (h0 : 64 ≤ v) (h1 : v ≤ 16383) : (putv v).length = 2 := by rw [putv_eq_2 v h0 h1, List.length_set, be_length]
theorem put_2_0 (v : Int) (h0 : 64 ≤ v) (h1 : v ≤ 16383) : (putv v).getD 0 0 = v / 256 % 256 + 64 := by
  rw [putv_eq_2 v h0 h1, set_head _ _ (by rw [be_length]; decide), be_at v 2 0 (by decide)]
  rfl
theorem put_2_1 (v : Int) (h0 : 64 ≤ v) (h1 : v ≤ 16383) : (putv v).getD 1 0 = v / 1 % 256 := by
  rw [putv_eq_2 v h0 h1, set_tail, be_at v 2 1 (by decide)]
  rfl
theorem head_form_2 (v : Int) (h0 : 64 ≤ v) (h1 : v ≤ 16383) : (putv v).getD 0 0 / 64 = 1 ∧ 0 ≤ (putv v).getD 0 0 ∧ (putv v).getD 0 0 < 256 := by
  rw [put_2_0 v h0 h1]
  omega
theorem back_2 (v : Int) (h0 : 64 ≤ v) (h1 : v ≤ 16383) : vals (putv v) % 16384 = v := by
  rw [vals_2 _ (put_len_2 v h0 h1), put_2_0 v h0 h1, put_2_1 v h0 h1]
  omega
theorem at_2_0 (x0 x1 v : Int) (l0 : 0 ≤ x0) (u0 : x0 < 256) (l1 : 0 ≤ x1) (u1 : x1 < 256) (hf : x0 / 64 = 1) (hv : v = x0 % 64 * 256 + x1) : v / 256 % 256 + 64 = x0 := by omega
theorem at_2_1 (x0 x1 v : Int) (l0 : 0 ≤ x0) (u0 : x0 < 256) (l1 : 0 ≤ x1) (u1 : x1 < 256) (hf : x0 / 64 = 1) (hv : v = x0 % 64 * 256 + x1) : v / 1 % 256 = x1 := by omega
theorem same_2 (ys : List Int) (v : Int) (hl : ys.length = 2) (hB : Bytes ys) (hf : ys.getD 0 0 / 64 = 1) (hv : v = vals ys % 16384) (h0 : 64 ≤ v) (h1 : v ≤ 16383) : ys = putv v := by
  have e := low_2 _ _ (hB.at 0).1 (hB.at 0).2 (hB.at 1).1 (hB.at 1).2 hf
  rw [vals_2 ys hl, e] at hv
  refine list_eq_of_getD hl (put_len_2 v h0 h1) (fun j hj => ?_)
  have hj' : j = 0 ∨ j = 1 := by omega
  rcases hj' with rfl | rfl
  · rw [put_2_0 v h0 h1, at_2_0 _ _ v (hB.at 0).1 (hB.at 0).2 (hB.at 1).1 (hB.at 1).2 hf hv]
  · rw [put_2_1 v h0 h1, at_2_1 _ _ v (hB.at 0).1 (hB.at 0).2 (hB.at 1).1 (hB.at 1).2 hf hv]

theorem putv_eq_4 (v : Int) (h0 : 16384 ≤ v) (h1 : v ≤ 1073741823) : putv v = (be v 4).set 0 ((be v 4).getD 0 0 + 128) := by
  have := putv_4 v h0 h1
  unfold putv
  rw [this.1, this.2.1]
  rfl
theorem put_len_4 (v : Int) (h0 : 16384 ≤ v) (h1 : v ≤ 1073741823) : (putv v).length = 4 := by rw [putv_eq_4 v h0 h1, List.length_set, be_length]
theorem put_4_0 (v : Int) (h0 : 16384 ≤ v) (h1 : v ≤ 1073741823) : (putv v).getD 0 0 = v / 16777216 % 256 + 128 := by
  rw [putv_eq_4 v h0 h1, set_head _ _ (by rw [be_length]; decide), be_at v 4 0 (by decide)]
  rfl
theorem put_4_1 (v : Int) (h0 : 16384 ≤ v) (h1 : v ≤ 1073741823) : (putv v).getD 1 0 = v / 65536 % 256 := by
  rw [putv_eq_4 v h0 h1, set_tail, be_at v 4 1 (by decide)]
  rfl
theorem put_4_2 (v : Int) (h0 : 16384 ≤ v) (h1 : v ≤ 1073741823) : (putv v).getD 2 0 = v / 256 % 256 := by
  rw [putv_eq_4 v h0 h1, set_tail, be_at v 4 2 (by decide)]
  rfl
theorem put_4_3 (v : Int) (h0 : 16384 ≤ v) (h1 : v ≤ 1073741823) : (putv v).getD 3 0 = v / 1 % 256 := by
  rw [putv_eq_4 v h0 h1, set_tail, be_at v 4 3 (by decide)]
  rfl
theorem head_form_4 (v : Int) (h0 : 16384 ≤ v) (h1 : v ≤ 1073741823) : (putv v).getD 0 0 / 64 = 2 ∧ 0 ≤ (putv v).getD 0 0 ∧ (putv v).getD 0 0 < 256 := by
  rw [put_4_0 v h0 h1]
  omega
theorem back_4 (v : Int) (h0 : 16384 ≤ v) (h1 : v ≤ 1073741823) : vals (putv v) % 1073741824 = v := by
  rw [vals_4 _ (put_len_4 v h0 h1), put_4_0 v h0 h1, put_4_1 v h0 h1, put_4_2 v h0 h1, put_4_3 v h0 h1]
  omega
theorem at_4_0 (x0 x1 x2 x3 v : Int) (l0 : 0 ≤ x0) (u0 : x0 < 256) (l1 : 0 ≤ x1) (u1 : x1 < 256) (l2 : 0 ≤ x2) (u2 : x2 < 256) (l3 : 0 ≤ x3) (u3 : x3 < 256) (hf : x0 / 64 = 2) (hv : v = ((x0 % 64 * 256 + x1) * 256 + x2) * 256 + x3) : v / 16777216 % 256 + 128 = x0 := by omega
theorem at_4_1 (x0 x1 x2 x3 v : Int) (l0 : 0 ≤ x0) (u0 : x0 < 256) (l1 : 0 ≤ x1) (u1 : x1 < 256) (l2 : 0 ≤ x2) (u2 : x2 < 256) (l3 : 0 ≤ x3) (u3 : x3 < 256) (hf : x0 / 64 = 2) (hv : v = ((x0 % 64 * 256 + x1) * 256 + x2) * 256 + x3) : v / 65536 % 256 = x1 := by omega
theorem at_4_2 (x0 x1 x2 x3 v : Int) (l0 : 0 ≤ x0) (u0 : x0 < 256) (l1 : 0 ≤ x1) (u1 : x1 < 256) (l2 : 0 ≤ x2) (u2 : x2 < 256) (l3 : 0 ≤ x3) (u3 : x3 < 256) (hf : x0 / 64 = 2) (hv : v = ((x0 % 64 * 256 + x1) * 256 + x2) * 256 + x3) : v / 256 % 256 = x2 := by omega
theorem at_4_3 (x0 x1 x2 x3 v : Int) (l0 : 0 ≤ x0) (u0 : x0 < 256) (l1 : 0 ≤ x1) (u1 : x1 < 256) (l2 : 0 ≤ x2) (u2 : x2 < 256) (l3 : 0 ≤ x3) (u3 : x3 < 256) (hf : x0 / 64 = 2) (hv : v = ((x0 % 64 * 256 + x1) * 256 + x2) * 256 + x3) : v / 1 % 256 = x3 := by omega
theorem same_4 (ys : List Int) (v : Int) (hl : ys.length = 4) (hB : Bytes ys) (hf : ys.getD 0 0 / 64 = 2) (hv : v = vals ys % 1073741824) (h0 : 16384 ≤ v) (h1 : v ≤ 1073741823) : ys = putv v := by
  have e := low_4 _ _ _ _ (hB.at 0).1 (hB.at 0).2 (hB.at 1).1 (hB.at 1).2 (hB.at 2).1 (hB.at 2).2 (hB.at 3).1 (hB.at 3).2 hf
  rw [vals_4 ys hl, e] at hv
  refine list_eq_of_getD hl (put_len_4 v h0 h1) (fun j hj => ?_)
  have hj' : j = 0 ∨ j = 1 ∨ j = 2 ∨ j = 3 := by omega
  rcases hj' with rfl | rfl | rfl | rfl
  · rw [put_4_0 v h0 h1, at_4_0 _ _ _ _ v (hB.at 0).1 (hB.at 0).2 (hB.at 1).1 (hB.at 1).2 (hB.at 2).1 (hB.at 2).2 (hB.at 3).1 (hB.at 3).2 hf hv]
  · rw [put_4_1 v h0 h1, at_4_1 _ _ _ _ v (hB.at 0).1 (hB.at 0).2 (hB.at 1).1 (hB.at 1).2 (hB.at 2).1 (hB.at 2).2 (hB.at 3).1 (hB.at 3).2 hf hv]
  · rw [put_4_2 v h0 h1, at_4_2 _ _ _ _ v (hB.at 0).1 (hB.at 0).2 (hB.at 1).1 (hB.at 1).2 (hB.at 2).1 (hB.at 2).2 (hB.at 3).1 (hB.at 3).2 hf hv]
  · rw [put_4_3 v h0 h1, at_4_3 _ _ _ _ v (hB.at 0).1 (hB.at 0).2 (hB.at 1).1 (hB.at 1).2 (hB.at 2).1 (hB.at 2).2 (hB.at 3).1 (hB.at 3).2 hf hv]

theorem putv_eq_8 (v : Int) (h0 : 1073741824 ≤ v) (h1 : v ≤ 4611686018427387903) : putv v = (be v 8).set 0 ((be v 8).getD 0 0 + 192) := by
  have := putv_8 v h0 h1
  unfold putv
  rw [this.1, this.2.1]
  rfl
theorem put_len_8 (v : Int) (h0 : 1073741824 ≤ v) (h1 : v ≤ 4611686018427387903) : (putv v).length = 8 := by rw [putv_eq_8 v h0 h1, List.length_set, be_length]
theorem put_8_0 (v : Int) (h0 : 1073741824 ≤ v) (h1 : v ≤ 4611686018427387903) : (putv v).getD 0 0 = v / 72057594037927936 % 256 + 192 := by
  rw [putv_eq_8 v h0 h1, set_head _ _ (by rw [be_length]; decide), be_at v 8 0 (by decide)]
  rfl
theorem put_8_1 (v : Int) (h0 : 1073741824 ≤ v) (h1 : v ≤ 4611686018427387903) : (putv v).getD 1 0 = v / 281474976710656 % 256 := by
  rw [putv_eq_8 v h0 h1, set_tail, be_at v 8 1 (by decide)]
  rfl
theorem put_8_2 (v : Int) (h0 : 1073741824 ≤ v) (h1 : v ≤ 4611686018427387903) : (putv v).getD 2 0 = v / 1099511627776 % 256 := by
  rw [putv_eq_8 v h0 h1, set_tail, be_at v 8 2 (by decide)]
  rfl
theorem put_8_3 (v : Int) (h0 : 1073741824 ≤ v) (h1 : v ≤ 4611686018427387903) : (putv v).getD 3 0 = v / 4294967296 % 256 := by
  rw [putv_eq_8 v h0 h1, set_tail, be_at v 8 3 (by decide)]
  rfl
theorem put_8_4 (v : Int) (h0 : 1073741824 ≤ v) (h1 : v ≤ 4611686018427387903) : (putv v).getD 4 0 = v / 16777216 % 256 := by
  rw [putv_eq_8 v h0 h1, set_tail, be_at v 8 4 (by decide)]
  rfl
theorem put_8_5 (v : Int) (h0 : 1073741824 ≤ v) (h1 : v ≤ 4611686018427387903) : (putv v).getD 5 0 = v / 65536 % 256 := by
  rw [putv_eq_8 v h0 h1, set_tail, be_at v 8 5 (by decide)]
  rfl
theorem put_8_6 (v : Int) (h0 : 1073741824 ≤ v) (h1 : v ≤ 4611686018427387903) : (putv v).getD 6 0 = v / 256 % 256 := by
  rw [putv_eq_8 v h0 h1, set_tail, be_at v 8 6 (by decide)]
  rfl
theorem put_8_7 (v : Int) (h0 : 1073741824 ≤ v) (h1 : v ≤ 4611686018427387903) : (putv v).getD 7 0 = v / 1 % 256 := by
  rw [putv_eq_8 v h0 h1, set_tail, be_at v 8 7 (by decide)]
  rfl
theorem head_form_8 (v : Int) (h0 : 1073741824 ≤ v) (h1 : v ≤ 4611686018427387903) : (putv v).getD 0 0 / 64 = 3 ∧ 0 ≤ (putv v).getD 0 0 ∧ (putv v).getD 0 0 < 256 := by
  rw [put_8_0 v h0 h1]
  omega
theorem back_8 (v : Int) (h0 : 1073741824 ≤ v) (h1 : v ≤ 4611686018427387903) : vals (putv v) % 4611686018427387904 = v := by
  rw [vals_8 _ (put_len_8 v h0 h1), put_8_0 v h0 h1, put_8_1 v h0 h1, put_8_2 v h0 h1, put_8_3 v h0 h1, put_8_4 v h0 h1, put_8_5 v h0 h1, put_8_6 v h0 h1, put_8_7 v h0 h1]
  omega
theorem at_8_0 (x0 x1 x2 x3 x4 x5 x6 x7 v : Int) (l0 : 0 ≤ x0) (u0 : x0 < 256) (l1 : 0 ≤ x1) (u1 : x1 < 256) (l2 : 0 ≤ x2) (u2 : x2 < 256) (l3 : 0 ≤ x3) (u3 : x3 < 256) (l4 : 0 ≤ x4) (u4 : x4 < 256) (l5 : 0 ≤ x5) (u5 : x5 < 256) (l6 : 0 ≤ x6) (u6 : x6 < 256) (l7 : 0 ≤ x7) (u7 : x7 < 256) (hf : x0 / 64 = 3) (hv : v = ((((((x0 % 64 * 256 + x1) * 256 + x2) * 256 + x3) * 256 + x4) * 256 + x5) * 256 + x6) * 256 + x7) : v / 72057594037927936 % 256 + 192 = x0 := by omega
theorem at_8_1 (x0 x1 x2 x3 x4 x5 x6 x7 v : Int) (l0 : 0 ≤ x0) (u0 : x0 < 256) (l1 : 0 ≤ x1) (u1 : x1 < 256) (l2 : 0 ≤ x2) (u2 : x2 < 256) (l3 : 0 ≤ x3) (u3 : x3 < 256) (l4 : 0 ≤ x4) (u4 : x4 < 256) (l5 : 0 ≤ x5) (u5 : x5 < 256) (l6 : 0 ≤ x6) (u6 : x6 < 256) (l7 : 0 ≤ x7) (u7 : x7 < 256) (hf : x0 / 64 = 3) (hv : v = ((((((x0 % 64 * 256 + x1) * 256 + x2) * 256 + x3) * 256 + x4) * 256 + x5) * 256 + x6) * 256 + x7) : v / 281474976710656 % 256 = x1 := by omega
theorem at_8_2 (x0 x1 x2 x3 x4 x5 x6 x7 v : Int) (l0 : 0 ≤ x0) (u0 : x0 < 256) (l1 : 0 ≤ x1) (u1 : x1 < 256) (l2 : 0 ≤ x2) (u2 : x2 < 256) (l3 : 0 ≤ x3) (u3 : x3 < 256) (l4 : 0 ≤ x4) (u4 : x4 < 256) (l5 : 0 ≤ x5) (u5 : x5 < 256) (l6 : 0 ≤ x6) (u6 : x6 < 256) (l7 : 0 ≤ x7) (u7 : x7 < 256) (hf : x0 / 64 = 3) (hv : v = ((((((x0 % 64 * 256 + x1) * 256 + x2) * 256 + x3) * 256 + x4) * 256 + x5) * 256 + x6) * 256 + x7) : v / 1099511627776 % 256 = x2 := by omega
theorem at_8_3 (x0 x1 x2 x3 x4 x5 x6 x7 v : Int) (l0 : 0 ≤ x0) (u0 : x0 < 256) (l1 : 0 ≤ x1) (u1 : x1 < 256) (l2 : 0 ≤ x2) (u2 : x2 < 256) (l3 : 0 ≤ x3) (u3 : x3 < 256) (l4 : 0 ≤ x4) (u4 : x4 < 256) (l5 : 0 ≤ x5) (u5 : x5 < 256) (l6 : 0 ≤ x6) (u6 : x6 < 256) (l7 : 0 ≤ x7) (u7 : x7 < 256) (hf : x0 / 64 = 3) (hv : v = ((((((x0 % 64 * 256 + x1) * 256 + x2) * 256 + x3) * 256 + x4) * 256 + x5) * 256 + x6) * 256 + x7) : v / 4294967296 % 256 = x3 := by omega
theorem at_8_4 (x0 x1 x2 x3 x4 x5 x6 x7 v : Int) (l0 : 0 ≤ x0) (u0 : x0 < 256) (l1 : 0 ≤ x1) (u1 : x1 < 256) (l2 : 0 ≤ x2) (u2 : x2 < 256) (l3 : 0 ≤ x3) (u3 : x3 < 256) (l4 : 0 ≤ x4) (u4 : x4 < 256) (l5 : 0 ≤ x5) (u5 : x5 < 256) (l6 : 0 ≤ x6) (u6 : x6 < 256) (l7 : 0 ≤ x7) (u7 : x7 < 256) (hf : x0 / 64 = 3) (hv : v = ((((((x0 % 64 * 256 + x1) * 256 + x2) * 256 + x3) * 256 + x4) * 256 + x5) * 256 + x6) * 256 + x7) : v / 16777216 % 256 = x4 := by omega
theorem at_8_5 (x0 x1 x2 x3 x4 x5 x6 x7 v : Int) (l0 : 0 ≤ x0) (u0 : x0 < 256) (l1 : 0 ≤ x1) (u1 : x1 < 256) (l2 : 0 ≤ x2) (u2 : x2 < 256) (l3 : 0 ≤ x3) (u3 : x3 < 256) (l4 : 0 ≤ x4) (u4 : x4 < 256) (l5 : 0 ≤ x5) (u5 : x5 < 256) (l6 : 0 ≤ x6) (u6 : x6 < 256) (l7 : 0 ≤ x7) (u7 : x7 < 256) (hf : x0 / 64 = 3) (hv : v = ((((((x0 % 64 * 256 + x1) * 256 + x2) * 256 + x3) * 256 + x4) * 256 + x5) * 256 + x6) * 256 + x7) : v / 65536 % 256 = x5 := by omega
theorem at_8_6 (x0 x1 x2 x3 x4 x5 x6 x7 v : Int) (l0 : 0 ≤ x0) (u0 : x0 < 256) (l1 : 0 ≤ x1) (u1 : x1 < 256) (l2 : 0 ≤ x2) (u2 : x2 < 256) (l3 : 0 ≤ x3) (u3 : x3 < 256) (l4 : 0 ≤ x4) (u4 : x4 < 256) (l5 : 0 ≤ x5) (u5 : x5 < 256) (l6 : 0 ≤ x6) (u6 : x6 < 256) (l7 : 0 ≤ x7) (u7 : x7 < 256) (hf : x0 / 64 = 3) (hv : v = ((((((x0 % 64 * 256 + x1) * 256 + x2) * 256 + x3) * 256 + x4) * 256 + x5) * 256 + x6) * 256 + x7) : v / 256 % 256 = x6 := by omega
theorem at_8_7 (x0 x1 x2 x3 x4 x5 x6 x7 v : Int) (l0 : 0 ≤ x0) (u0 : x0 < 256) (l1 : 0 ≤ x1) (u1 : x1 < 256) (l2 : 0 ≤ x2) (u2 : x2 < 256) (l3 : 0 ≤ x3) (u3 : x3 < 256) (l4 : 0 ≤ x4) (u4 : x4 < 256) (l5 : 0 ≤ x5) (u5 : x5 < 256) (l6 : 0 ≤ x6) (u6 : x6 < 256) (l7 : 0 ≤ x7) (u7 : x7 < 256) (hf : x0 / 64 = 3) (hv : v = ((((((x0 % 64 * 256 + x1) * 256 + x2) * 256 + x3) * 256 + x4) * 256 + x5) * 256 + x6) * 256 + x7) : v / 1 % 256 = x7 := by omega
theorem same_8 (ys : List Int) (v : Int) (hl : ys.length = 8) (hB : Bytes ys) (hf : ys.getD 0 0 / 64 = 3) (hv : v = vals ys % 4611686018427387904) (h0 : 1073741824 ≤ v) (h1 : v ≤ 4611686018427387903) : ys = putv v := by
  have e := low_8 _ _ _ _ _ _ _ _ (hB.at 0).1 (hB.at 0).2 (hB.at 1).1 (hB.at 1).2 (hB.at 2).1 (hB.at 2).2 (hB.at 3).1 (hB.at 3).2 (hB.at 4).1 (hB.at 4).2 (hB.at 5).1 (hB.at 5).2 (hB.at 6).1 (hB.at 6).2 (hB.at 7).1 (hB.at 7).2 hf
  rw [vals_8 ys hl, e] at hv
  refine list_eq_of_getD hl (put_len_8 v h0 h1) (fun j hj => ?_)
  have hj' : j = 0 ∨ j = 1 ∨ j = 2 ∨ j = 3 ∨ j = 4 ∨ j = 5 ∨ j = 6 ∨ j = 7 := by omega
  rcases hj' with rfl | rfl | rfl | rfl | rfl | rfl | rfl | rfl
  · rw [put_8_0 v h0 h1, at_8_0 _ _ _ _ _ _ _ _ v (hB.at 0).1 (hB.at 0).2 (hB.at 1).1 (hB.at 1).2 (hB.at 2).1 (hB.at 2).2 (hB.at 3).1 (hB.at 3).2 (hB.at 4).1 (hB.at 4).2 (hB.at 5).1 (hB.at 5).2 (hB.at 6).1 (hB.at 6).2 (hB.at 7).1 (hB.at 7).2 hf hv]
  · rw [put_8_1 v h0 h1, at_8_1 _ _ _ _ _ _ _ _ v (hB.at 0).1 (hB.at 0).2 (hB.at 1).1 (hB.at 1).2 (hB.at 2).1 (hB.at 2).2 (hB.at 3).1 (hB.at 3).2 (hB.at 4).1 (hB.at 4).2 (hB.at 5).1 (hB.at 5).2 (hB.at 6).1 (hB.at 6).2 (hB.at 7).1 (hB.at 7).2 hf hv]
  · rw [put_8_2 v h0 h1, at_8_2 _ _ _ _ _ _ _ _ v (hB.at 0).1 (hB.at 0).2 (hB.at 1).1 (hB.at 1).2 (hB.at 2).1 (hB.at 2).2 (hB.at 3).1 (hB.at 3).2 (hB.at 4).1 (hB.at 4).2 (hB.at 5).1 (hB.at 5).2 (hB.at 6).1 (hB.at 6).2 (hB.at 7).1 (hB.at 7).2 hf hv]
  · rw [put_8_3 v h0 h1, at_8_3 _ _ _ _ _ _ _ _ v (hB.at 0).1 (hB.at 0).2 (hB.at 1).1 (hB.at 1).2 (hB.at 2).1 (hB.at 2).2 (hB.at 3).1 (hB.at 3).2 (hB.at 4).1 (hB.at 4).2 (hB.at 5).1 (hB.at 5).2 (hB.at 6).1 (hB.at 6).2 (hB.at 7).1 (hB.at 7).2 hf hv]
  · rw [put_8_4 v h0 h1, at_8_4 _ _ _ _ _ _ _ _ v (hB.at 0).1 (hB.at 0).2 (hB.at 1).1 (hB.at 1).2 (hB.at 2).1 (hB.at 2).2 (hB.at 3).1 (hB.at 3).2 (hB.at 4).1 (hB.at 4).2 (hB.at 5).1 (hB.at 5).2 (hB.at 6).1 (hB.at 6).2 (hB.at 7).1 (hB.at 7).2 hf hv]
  · rw [put_8_5 v h0 h1, at_8_5 _ _ _ _ _ _ _ _ v (hB.at 0).1 (hB.at 0).2 (hB.at 1).1 (hB.at 1).2 (hB.at 2).1 (hB.at 2).2 (hB.at 3).1 (hB.at 3).2 (hB.at 4).1 (hB.at 4).2 (hB.at 5).1 (hB.at 5).2 (hB.at 6).1 (hB.at 6).2 (hB.at 7).1 (hB.at 7).2 hf hv]
  · rw [put_8_6 v h0 h1, at_8_6 _ _ _ _ _ _ _ _ v (hB.at 0).1 (hB.at 0).2 (hB.at 1).1 (hB.at 1).2 (hB.at 2).1 (hB.at 2).2 (hB.at 3).1 (hB.at 3).2 (hB.at 4).1 (hB.at 4).2 (hB.at 5).1 (hB.at 5).2 (hB.at 6).1 (hB.at 6).2 (hB.at 7).1 (hB.at 7).2 hf hv]
  · rw [put_8_7 v h0 h1, at_8_7 _ _ _ _ _ _ _ _ v (hB.at 0).1 (hB.at 0).2 (hB.at 1).1 (hB.at 1).2 (hB.at 2).1 (hB.at 2).2 (hB.at 3).1 (hB.at 3).2 (hB.at 4).1 (hB.at 4).2 (hB.at 5).1 (hB.at 5).2 (hB.at 6).1 (hB.at 6).2 (hB.at 7).1 (hB.at 7).2 hf hv]

theorem range_of (v : Int) (h : okv v) : (0 ≤ v ∧ v ≤ 63) ∨ (64 ≤ v ∧ v ≤ 16383) ∨ (16384 ≤ v ∧ v ≤ 1073741823) ∨ (1073741824 ≤ v ∧ v ≤ 4611686018427387903) := by
  obtain ⟨a, b⟩ := h; omega

theorem gvm_pos (x : Int) : 0 < gvm x ∧ gvm x ≤ 4611686018427387904 := by
  unfold gvm; split <;> (try split) <;> (try split) <;> decide

/-- What a reading that went well tells. -/
theorem gv_good (xs : List Int) (i : Nat) (h : (gv xs i).2.2 = 0) : xs.length ≤ 65536 ∧ i < xs.length ∧ i + gvn (xs.getD i 0) ≤ xs.length ∧ (gv xs i).2.1 = (i : Int) + gvn (xs.getD i 0) ∧ (gv xs i).1 = vals ((xs.drop i).take (gvn (xs.getD i 0))) % gvm (xs.getD i 0) ∧ okv (gv xs i).1 := by
  by_cases h1 : 65536 < xs.length
  · unfold gv at h; rw [if_pos h1] at h; simp at h
  · by_cases h2 : (i : Int) < 0 ∨ (xs.length : Int) < i
    · unfold gv at h; rw [if_neg h1, if_pos h2] at h; simp at h
    · by_cases h3 : (i : Int) = xs.length
      · unfold gv at h; rw [if_neg h1, if_neg h2, if_pos h3] at h; simp at h
      · by_cases h4 : xs.length < i + gvn (xs.getD i 0)
        · rw [gv_short xs i (by omega) (by omega) h4] at h; simp at h
        · have e := gv_ok xs i (by omega) (by omega) (by omega)
          rw [e]
          have hp := gvm_pos (xs.getD i 0)
          refine ⟨by omega, by omega, by omega, rfl, rfl, ?_⟩
          have h5 := Int.emod_nonneg (vals ((xs.drop i).take (gvn (xs.getD i 0)))) (show gvm (xs.getD i 0) ≠ 0 by omega)
          have h6 := Int.emod_lt_of_pos (vals ((xs.drop i).take (gvn (xs.getD i 0)))) hp.1
          exact ⟨h5, by show _ % _ ≤ _; omega⟩

/-- A number in its shortest form: its bytes are those that are put. -/
theorem gv_short_piece (xs : List Int) (i : Nat) (hB : Bytes xs) (h : (gv xs i).2.2 = 0) (hs : (gv xs i).2.1 - i = vsize (gv xs i).1) : (xs.drop i).take (vsize (gv xs i).1).toNat = putv (gv xs i).1 := by
  obtain ⟨g1, g2, g3, g4, g5, g6⟩ := gv_good xs i h
  have hn : vsize (gv xs i).1 = gvn (xs.getD i 0) := by rw [← hs, g4]; omega
  have hb := hB.at i
  have hsB : Bytes ((xs.drop i).take (gvn (xs.getD i 0))) := (hB.drop i).take _
  have hsl := sub_length xs i (gvn (xs.getD i 0)) g3
  have hh := sub_at xs i (gvn (xs.getD i 0)) 0 (by have := gvn_bd (xs.getD i 0); omega)
  rw [Nat.add_zero] at hh
  have e2 : (vsize (gv xs i).1).toNat = gvn (xs.getD i 0) := by rw [hn]; omega
  rw [e2]
  generalize gv xs i = p at g5 g6 hn
  obtain ⟨v, q, c⟩ := p
  simp only at g5 g6 hn ⊢
  generalize (xs.drop i).take (gvn (xs.getD i 0)) = ys at *
  generalize xs.getD i 0 = x at *
  rcases gv_form x hb.1 hb.2 with ⟨hf, e, em⟩ | ⟨hf, e, em⟩ | ⟨hf, e, em⟩ | ⟨hf, e, em⟩
  · rw [e] at hn hsl; rw [em] at g5
    have hr : 0 ≤ v ∧ v ≤ 63 := by
      rcases range_of v g6 with r | r | r | r
      · exact r
      · have := (putv_2 v r.1 r.2).1; omega
      · have := (putv_4 v r.1 r.2).1; omega
      · have := (putv_8 v r.1 r.2).1; omega
    exact same_1 ys v hsl hsB (by rw [hh]; exact hf) g5 hr.1 hr.2
  · rw [e] at hn hsl; rw [em] at g5
    have hr : 64 ≤ v ∧ v ≤ 16383 := by
      rcases range_of v g6 with r | r | r | r
      · have := (putv_1 v r.1 r.2).1; omega
      · exact r
      · have := (putv_4 v r.1 r.2).1; omega
      · have := (putv_8 v r.1 r.2).1; omega
    exact same_2 ys v hsl hsB (by rw [hh]; exact hf) g5 hr.1 hr.2
  · rw [e] at hn hsl; rw [em] at g5
    have hr : 16384 ≤ v ∧ v ≤ 1073741823 := by
      rcases range_of v g6 with r | r | r | r
      · have := (putv_1 v r.1 r.2).1; omega
      · have := (putv_2 v r.1 r.2).1; omega
      · exact r
      · have := (putv_8 v r.1 r.2).1; omega
    exact same_4 ys v hsl hsB (by rw [hh]; exact hf) g5 hr.1 hr.2
  · rw [e] at hn hsl; rw [em] at g5
    have hr : 1073741824 ≤ v ∧ v ≤ 4611686018427387903 := by
      rcases range_of v g6 with r | r | r | r
      · have := (putv_1 v r.1 r.2).1; omega
      · have := (putv_2 v r.1 r.2).1; omega
      · have := (putv_4 v r.1 r.2).1; omega
      · exact r
    exact same_8 ys v hsl hsB (by rw [hh]; exact hf) g5 hr.1 hr.2

/-- Where the bytes that are put stand, they are read. -/
theorem gv_put (xs : List Int) (i : Nat) (v : Int) (hv : okv v) (hl : xs.length ≤ 65536) (h : (xs.drop i).take (vsize v).toNat = putv v) : gv xs i = (v, (i : Int) + vsize v, 0) := by
  have hvb := vsize_bd v hv
  have hpl := putv_length v
  have hlen : ((xs.drop i).take (vsize v).toNat).length = (vsize v).toNat := by rw [h, hpl]
  rw [List.length_take, List.length_drop] at hlen
  have hh : xs.getD i 0 = (putv v).getD 0 0 := by
    rw [← h, sub_at xs i _ 0 (by omega), Nat.add_zero]
  rcases range_of v hv with r | r | r | r
  · have hs := (putv_1 v r.1 r.2).1
    have hf := head_form_1 v r.1 r.2
    rw [← hh] at hf
    rw [hs] at h hlen
    obtain ⟨hf1, hf2⟩ : gvn (xs.getD i 0) = 1 ∧ gvm (xs.getD i 0) = 64 := by
      rcases gv_form _ hf.2.1 hf.2.2 with ⟨a, b, c⟩ | ⟨a, b, c⟩ | ⟨a, b, c⟩ | ⟨a, b, c⟩
      · exact ⟨b, c⟩
      · omega
      · omega
      · omega
    have hle : i + 1 ≤ xs.length := by simp at hlen; omega
    rw [gv_ok xs i hl (by omega) (by rw [hf1]; omega), hf1, hf2, hs]
    have h' : (xs.drop i).take 1 = putv v := h
    rw [h', back_1 v r.1 r.2]
    rfl
  · have hs := (putv_2 v r.1 r.2).1
    have hf := head_form_2 v r.1 r.2
    rw [← hh] at hf
    rw [hs] at h hlen
    obtain ⟨hf1, hf2⟩ : gvn (xs.getD i 0) = 2 ∧ gvm (xs.getD i 0) = 16384 := by
      rcases gv_form _ hf.2.1 hf.2.2 with ⟨a, b, c⟩ | ⟨a, b, c⟩ | ⟨a, b, c⟩ | ⟨a, b, c⟩
      · omega
      · exact ⟨b, c⟩
      · omega
      · omega
    have hle : i + 2 ≤ xs.length := by simp at hlen; omega
    rw [gv_ok xs i hl (by omega) (by rw [hf1]; omega), hf1, hf2, hs]
    have h' : (xs.drop i).take 2 = putv v := h
    rw [h', back_2 v r.1 r.2]
    rfl
  · have hs := (putv_4 v r.1 r.2).1
    have hf := head_form_4 v r.1 r.2
    rw [← hh] at hf
    rw [hs] at h hlen
    obtain ⟨hf1, hf2⟩ : gvn (xs.getD i 0) = 4 ∧ gvm (xs.getD i 0) = 1073741824 := by
      rcases gv_form _ hf.2.1 hf.2.2 with ⟨a, b, c⟩ | ⟨a, b, c⟩ | ⟨a, b, c⟩ | ⟨a, b, c⟩
      · omega
      · omega
      · exact ⟨b, c⟩
      · omega
    have hle : i + 4 ≤ xs.length := by simp at hlen; omega
    rw [gv_ok xs i hl (by omega) (by rw [hf1]; omega), hf1, hf2, hs]
    have h' : (xs.drop i).take 4 = putv v := h
    rw [h', back_4 v r.1 r.2]
    rfl
  · have hs := (putv_8 v r.1 r.2).1
    have hf := head_form_8 v r.1 r.2
    rw [← hh] at hf
    rw [hs] at h hlen
    obtain ⟨hf1, hf2⟩ : gvn (xs.getD i 0) = 8 ∧ gvm (xs.getD i 0) = 4611686018427387904 := by
      rcases gv_form _ hf.2.1 hf.2.2 with ⟨a, b, c⟩ | ⟨a, b, c⟩ | ⟨a, b, c⟩ | ⟨a, b, c⟩
      · omega
      · omega
      · omega
      · exact ⟨b, c⟩
    have hle : i + 8 ≤ xs.length := by simp at hlen; omega
    rw [gv_ok xs i hl (by omega) (by rw [hf1]; omega), hf1, hf2, hs]
    have h' : (xs.drop i).take 8 = putv v := h
    rw [h', back_8 v r.1 r.2]
    rfl
end Go.Proofs.YteggfkekgdlecaaGreatDoor

namespace Go.Proofs.YteggfkekgdlecaaGreatDoor
open Go.RowKit
set_option linter.unusedVariables false
set_option linter.unusedSimpArgs false

/-- The bytes of a hello are bytes. -/
theorem put_headA (v : Int) (h : okv v) : 0 ≤ (putv v).getD 0 0 ∧ (putv v).getD 0 0 < 256 := by
  rcases range_of v h with r | r | r | r
  · exact (head_form_1 v r.1 r.2).2
  · exact (head_form_2 v r.1 r.2).2
  · exact (head_form_4 v r.1 r.2).2
  · exact (head_form_8 v r.1 r.2).2
theorem putv_bytesA (v : Int) (h0 : 0 ≤ v) (h1 : v ≤ 4611686018427387903) : Bytes (putv v) := by
  have h : okv v := ⟨h0, h1⟩
  have hh := put_headA v h
  have hb := vsize_bd v h
  intro x hx
  have e : (putv v).getD 0 0 = (be v (vsize v).toNat).getD 0 0 + 64 * sform v := by
    unfold putv; rw [set_head _ _ (by rw [be_length]; omega)]
  unfold putv at hx
  rcases List.mem_or_eq_of_mem_set hx with h1 | h1
  · exact be_bytes _ _ x h1
  · rw [← e] at h1; rw [h1]; exact hh
theorem entB_bytes (n : Int) (ys : List Int) (h0 : 0 ≤ n) (h1 : n ≤ 63) (hl : ys.length ≤ 1000) (hy : Bytes ys) : Bytes (entB n ys) :=
  bytes_append (putv_bytesA n h0 (by omega)) (bytes_append (putv_bytesA _ (by omega) (by omega)) hy)
theorem bytes_nilA : Bytes [] := fun x hx => by cases hx
theorem bytes_consA {x : Int} {xs : List Int} (h0 : 0 ≤ x) (h1 : x < 256) (h : Bytes xs) : Bytes (x :: xs) := fun y hy => by
  rcases List.mem_cons.1 hy with rfl | hy
  · exact ⟨h0, h1⟩
  · exact h y hy
theorem bytes_flatA (L : List (List Int)) (h : ∀ ys ∈ L, Bytes ys) : Bytes L.flatten := fun x hx => by
  obtain ⟨ys, hy, hx⟩ := List.mem_flatten.1 hx
  exact h ys hy x hx
theorem putv_lenA (v : Int) (h0 : 0 ≤ v) (h1 : v ≤ 4611686018427387903) : (putv v).length ≤ 1000 := Nat.le_trans (putv_le v h0 h1) (by decide)
theorem parB_bytes (p : PP) (s : Bool) (h : pok p s = true) (hb : p.bytes) : Bytes (parB p s) := by
  obtain ⟨⟨e0, e2, e1⟩, h0, h1, h2, h3, h4, h5, h6, h7, h8⟩ := pok_parts p s h
  refine bytes_flatA _ fun ys hy => ?_
  unfold parL at hy
  simp only [List.mem_cons, List.not_mem_nil, or_false] at hy
  have num : ∀ (n v : Int), 0 ≤ n → n ≤ 63 → 0 ≤ v → v ≤ 1000000000000 → Bytes (entB n (putv v)) := fun n v a b c d => entB_bytes n _ a b (putv_lenA v c (by omega)) (putv_bytesA v c (by omega))
  rcases hy with rfl | rfl | rfl | rfl | rfl | rfl | rfl | rfl | rfl | rfl | rfl | rfl | rfl
  · split
    · exact entB_bytes 0 _ (by decide) (by decide) (by omega) hb.1
    · exact bytes_nilA
  · exact num 1 _ (by decide) (by decide) h0.1 h0.2
  · split
    · exact entB_bytes 2 _ (by decide) (by decide) (by omega) hb.2.1
    · exact bytes_nilA
  · exact num 3 _ (by decide) (by decide) (by omega) (by omega)
  · exact num 4 _ (by decide) (by decide) (by omega) (by omega)
  · exact num 5 _ (by decide) (by decide) (by omega) (by omega)
  · exact num 8 _ (by decide) (by decide) (by omega) (by omega)
  · exact num 9 _ (by decide) (by decide) (by omega) (by omega)
  · exact num 11 _ (by decide) (by decide) (by omega) (by omega)
  · split
    · exact entB_bytes 12 _ (by decide) (by decide) (Nat.zero_le _) bytes_nilA
    · exact bytes_nilA
  · exact num 14 _ (by decide) (by decide) (by omega) (by omega)
  · exact entB_bytes 15 _ (by decide) (by decide) (by omega) hb.2.2
  · exact num 32 _ (by decide) (by decide) (by omega) (by omega)
theorem heB_bytes (h : HE) (ok : heOK h) (hb : Bytes h.rnd ∧ h.par.bytes) : Bytes (heB h) := by
  have hlen := heOK_len h ok
  have hkd : h.kd = 1 ∨ h.kd = 2 := by rcases ok.2 with q | q; exact Or.inr q.1; exact Or.inl q.1
  have hpk : pok h.par (decide (h.kd = 2)) = true := by
    rcases ok.2 with ⟨e, q⟩ | ⟨e, q⟩
    · rw [decide_eq_true e]; exact q.2.2.2
    · rw [decide_eq_false (by omega)]; exact q.2.2.2
  refine bytes_consA (by omega) (by omega) (bytes_append (be_bytes _ _) ?_)
  refine bytes_append (bytes_append (bytes_append hb.1 ?_) (bytes_consA (by omega) (by omega) ?_)) (parB_bytes _ _ hpk hb.2)
  · unfold heV
    split
    · refine bytes_consA (by omega) (by omega) (bytes_flatA _ fun ys hy => ?_)
      obtain ⟨v, _, rfl⟩ := List.mem_map.1 hy
      exact be_bytes _ _
    · exact be_bytes _ _
  · refine bytes_flatA _ fun ys hy => ?_
    obtain ⟨t, ht, rfl⟩ := List.mem_map.1 hy
    obtain ⟨i, hi, e⟩ := List.getElem_of_mem ht
    have hl : i < h.nms.length := by have := hi; rw [List.length_take] at this; omega
    have h16 := hlen.2.2.2.2 i hl
    have e2 : h.nms.getD i ByteArray.empty = t := by
      rw [List.getD_eq_getElem?_getD, List.getElem?_eq_getElem hl, Option.getD_some, ← e, List.getElem_take]
    rw [e2] at h16
    exact bytes_append (putv_bytesA _ (by omega) (by omega)) (txB_bytes t)
theorem heB_len (h : HE) (ok : heOK h) : (heB h).length ≤ 603 := by
  have := (heOK_len h ok).2.1
  unfold heB
  rw [List.length_cons, List.length_append, be_length]
  omega
end Go.Proofs.YteggfkekgdlecaaGreatDoor

namespace Go.Proofs.YteggfkekgdlecaaGreatDoor
open Go.RowKit
set_option linter.unusedVariables false
set_option linter.unusedSimpArgs false

/-- What is being put together, above W. -/
structure OutH (W wr : World) (vo : Value) (xs : List Int) : Prop where
  own : wr.ownsRow W.heap.size 5 1 vo xs.length (xs.map (Value.int .u8))
  bel : Below W.heap.size W wr
theorem OutH.went {W wr w' : World} {vo : Value} {xs : List Int} (h : OutH W wr vo xs) (b : Below wr.heap.size wr w') : OutH W w' vo xs := ⟨owns_below h.own b, h.bel.trans (b.mono h.bel.size)⟩
theorem OutH.app {W wr w' : World} {vo v' : Value} {xs ys : List Int} (h : OutH W wr vo xs) (o : w'.ownsRow W.heap.size 5 1 v' (xs.length + ys.length) ((xs ++ ys).map (Value.int .u8))) (g : wr.grownBy w' vo.ownBlock) : OutH W w' v' (xs ++ ys) :=
  ⟨by rw [List.length_append]; exact o, h.bel.grown g h.bel.size (fun t ht => (h.own.lt t ht).1)⟩
theorem OutH.gr {W wr w' : World} {vo v' : Value} {xs ys : List Int} (h : OutH W wr vo xs) (o : w'.ownsRow W.heap.size 5 1 v' ys.length (ys.map (Value.int .u8))) (g : GrW wr w' vo v') : OutH W w' v' ys :=
  ⟨o, h.bel.trans (g.below h.own h.bel.size)⟩
theorem OutH.form {W wr : World} {vo : Value} {xs : List Int} (h : OutH W wr vo xs) : ∃ ao cap, vo = .slice ao xs.length cap := (row_of_owns h.own).form
theorem own_grown {w w' : World} {base n : Nat} {v : Value} {xs : List Value} {g : Option Nat} (h : w.ownsRow base 5 1 v n xs) (hg : w.grownBy w' g) (ha : ∀ k, v.ownBlock = some k → some k ≠ g) : w'.ownsRow base 5 1 v n xs := by
  obtain ⟨hl, h2⟩ := h
  refine ⟨hl, ?_⟩
  rcases h2 with h2 | ⟨g', cap, cur, rfl, hb, hh, r⟩
  · exact Or.inl h2
  · exact Or.inr ⟨g', cap, cur, rfl, hb, (hg.block g' (Array.getElem?_eq_some_iff.1 hh).1 (fun e => ha g' rfl e)).trans hh, r⟩
/-- Behind the head's first append: the head, and what was put together. -/
structure HdH (W wr : World) (vh vo : Value) (hs zs : List Int) : Prop where
  hd : wr.ownsRow W.heap.size 5 1 vh hs.length (hs.map (Value.int .u8))
  out : wr.ownsRow W.heap.size 5 1 vo zs.length (zs.map (Value.int .u8))
  bel : Below W.heap.size W wr
theorem lit1O (w : World) (x : Int) (base : Nat) (hb : base ≤ w.heap.size) : (w.alloc (.cells #[.int .u8 x] 5)).ownsRow base 5 1 (.slice (some ⟨w.heap.size, 0, none⟩) 1 1) 1 (([x] : List Int).map (Value.int .u8)) := World.ownsRow_lit w #[.int .u8 x] 1 hb (by decide) rfl
/-- w is the world in which the literal stands already. -/
theorem HdH.mk1 {W w w' : World} {vo vh : Value} {zs hs : List Int} {p : Nat} (h : OutH W w vo zs) (hlt : ∀ k, vo.ownBlock = some k → k ≠ p) (hp : W.heap.size ≤ p) (o : w'.ownsRow W.heap.size 5 1 vh hs.length (hs.map (Value.int .u8))) (g : w.grownBy w' (Value.slice (some ⟨p, 0, none⟩) 1 1).ownBlock) : HdH W w' vh vo hs zs :=
  ⟨o, own_grown h.own g (fun k hk e => hlt k hk (Option.some.inj e)), h.bel.grown g h.bel.size (fun t ht => by have e : p = t := Option.some.inj ht; omega)⟩
theorem lit1B (w : World) (x : Int) : Row (w.alloc (.cells #[.int .u8 x] 5)) .u8 (.slice (some ⟨w.heap.size, 0, none⟩) 1 1) [x] := by
  refine Or.inr ⟨w.heap.size, 0, 1, rfl, by simp, ⟨Nat.le_refl _, by unfold maxLen; decide⟩, fun j hj => ?_⟩
  obtain rfl : j = 0 := by simpa using hj
  exact bk_cell (heap_alloc_new w _) 0
theorem infoHel18 : (Tryz.prog.info? 37).map (·.size) = some 18 := by kernel_rfl
set_option maxRecDepth 20000 in
set_option maxHeartbeats 4000000 in
theorem hbS_bad (v : Value) (h : HE) (w : World) (hr : HERow w v h) (hs : h.small 9223372036854775807) (no : ¬ heOK h) :
    Calls Tryz.prog 22 #[v] w fun e w' => ∃ r, e = .returned (.tuple #[r, .int .i64 1]) ∧ w'.ownsRow w.heap.size 5 1 r 0 [] ∧ Below w.heap.size w w' := by
  obtain ⟨a0, a1, a2, p0, p1, p2, v3, v4, v5, rfl, -, K⟩ := heK_new hr
  have BW : Below w.heap.size w (w.alloc (.cells (heL h (.slice a0 h.rnd.length p0) (.slice a1 h.vers.length p1) (.slice a2 h.nms.length p2) v3 v4 v5) 37)) := (Below.refl _ _).alloc (Nat.le_refl _) _
  have C := hokS _ h _ (hr.below BW) hs
  rw [decide_eq_false no] at C
  have HC : Hid _ := And.intro C (And.intro BW (heap_alloc_new w (.cells (heL h (.slice a0 h.rnd.length p0) (.slice a1 h.vers.length p1) (.slice a2 h.nms.length p2) v3 v4 v5) 37)))
  have HSZ : Hid ((Tryz.prog.info? 37).map (·.size) = some (heL h (.slice a0 h.rnd.length p0) (.slice a1 h.vers.length p1) (.slice a2 h.nms.length p2) v3 v4 v5).size) := infoHel18
  generalize heL h (.slice a0 h.rnd.length p0) (.slice a1 h.vers.length p1) (.slice a2 h.nms.length p2) v3 v4 v5 = CS at *
  clear C BW K hr hs no
  go_enter Tryz.func22, Tryz.ntmps22
  go_wp2_with (first | (refine wpList_load_row rfl 37 (.tmp 1) rfl w.heap.size rfl 37 CS (0, 0) _ HC.out.2.2 Tryz.underlying37 rfl HSZ.out ?_) | (go_at_call 20; refine HC.out.1.mono ?_; rintro e w1 ⟨rfl, b1⟩; have H1 : Hid _ := And.intro b1 True.intro; clear b1))
  go_ret2
  have B := HC.out.2.1.trans (H1.out.1.mono HC.out.2.1.size)
  exact ⟨_, rfl, World.ownsRow_lit w1 #[] 0 B.size (by decide) rfl, B.alloc B.size _⟩
set_option maxRecDepth 20000 in
set_option maxHeartbeats 8000000 in
theorem hbS_ok (v : Value) (h : HE) (w : World) (hr : HERow w v h) (hs : h.small 9223372036854775807) (ok : heOK h) :
    Calls Tryz.prog 22 #[v] w fun e w' => ∃ r, e = .returned (.tuple #[r, .int .i64 0]) ∧ w'.ownsRow w.heap.size 5 1 r (heB h).length ((heB h).map (Value.int .u8)) ∧ Below w.heap.size w w' := by
  obtain ⟨a0, a1, a2, p0, p1, p2, v3, v4, v5, rfl, -, K⟩ := heK_new hr
  obtain ⟨W, eW⟩ : ∃ W, W = w.alloc (.cells (heL h (.slice a0 h.rnd.length p0) (.slice a1 h.vers.length p1) (.slice a2 h.nms.length p2) v3 v4 v5) 37) := ⟨_, rfl⟩
  have BW : Below w.heap.size w W := by rw [eW]; exact (Below.refl _ _).alloc (Nat.le_refl _) _
  have C := hokS _ h _ (hr.below BW) hs
  rw [decide_eq_true ok, eW] at C
  have hlen := heOK_len h ok
  have hpk : pok h.par (decide (h.kd = 2)) = true := by
    rcases ok.2 with ⟨e, q⟩ | ⟨e, q⟩
    · rw [decide_eq_true e]; exact q.2.2.2
    · rw [decide_eq_false (by omega)]; exact q.2.2.2
  have hkd : h.kd = 1 ∨ h.kd = 2 := by rcases ok.2 with q | q; exact Or.inr q.1; exact Or.inl q.1
  rw [← eW] at K
  have CP := fun (w1 : World) (b : Below W.heap.size W w1) => copyA _ h.rnd w1 (K.below b).r0 (by have := ok.1; omega)
  have hvr : h.kd = 2 → 0 ≤ h.vr ∧ h.vr ≤ 4294967295 := fun e => by
    rcases ok.2 with ⟨_, q⟩ | ⟨e2, _⟩
    · exact ⟨by have := q.1.1; omega, q.1.2⟩
    · omega
  have hvs : h.kd = 1 → ∀ i, i < h.vers.length → 0 ≤ h.vers.getD i 0 ∧ h.vers.getD i 0 ≤ 4294967295 := fun e i hi => by
    rcases ok.2 with ⟨e2, _⟩ | ⟨_, q⟩
    · omega
    · have t := (q.2.1.2 i hi).1; exact ⟨by omega, t.2⟩
  have hl1 : h.kd = 1 → 1 ≤ h.vers.length := fun e => by
    rcases ok.2 with ⟨e2, _⟩ | ⟨_, q⟩
    · omega
    · exact q.2.1.1.1
  have PB := fun (w1 : World) (b : Below W.heap.size W w1) => pbS_ok (heP h v3 v4 v5) h.par (decide (h.kd = 2)) w1 (K.below b).r3 hs.2.2.2 hpk
  have HK : Hid _ := And.intro K (And.intro BW (And.intro C (And.intro CP (And.intro PB (And.intro hlen (And.intro hvr (And.intro hvs (And.intro hl1 eW))))))))
  obtain ⟨nv, env⟩ : ∃ n, n = h.vers.length := ⟨_, rfl⟩
  obtain ⟨nn, enn⟩ : ∃ n, n = h.nms.length := ⟨_, rfl⟩
  have hnv : nv ≤ 8 := by rw [env]; exact hlen.2.2.2.1
  have hnn : nn ≤ 4 := by rw [enn]; exact hlen.2.2.1
  have EN : Hid _ := And.intro env enn
  have hwv : IntKind.u8.wrap (nv : Int) = (nv : Int) := by rw [IntKind.wrap_u8]; omega
  have hwn : IntKind.u8.wrap (nn : Int) = (nn : Int) := by rw [IntKind.wrap_u8]; omega
  have hwk : IntKind.u8.wrap h.kd = h.kd := by rw [IntKind.wrap_u8]; omega
  have e2 : h.vers.length = nv := env.symm
  have e4 : h.nms.length = nn := enn.symm
  have CE : ∀ wx, Below W.heap.size W wx → wx.cell? ⟨w.heap.size, 0, none⟩ = some (.int .i64 h.kd) ∧ wx.cell? ⟨w.heap.size, 1, none⟩ = some (.int .i64 h.vr) ∧ wx.cell? ⟨w.heap.size, 2, none⟩ = some (.slice a0 h.rnd.length p0) ∧ wx.cell? ⟨w.heap.size, 3, none⟩ = some (.slice a1 nv p1) ∧ wx.cell? ⟨w.heap.size, 4, none⟩ = some (.slice a2 nn p2) := fun wx hx => by
    obtain ⟨k0, k1, k2, k3, k4, -⟩ := (HK.out.1.below hx).cells
    rw [e2] at k3
    rw [e4] at k4
    exact ⟨k0, k1, k2, k3, k4⟩
  have HE' : Hid _ := And.intro CE True.intro
  have HSZ : Hid ((Tryz.prog.info? 37).map (·.size) = some (heL h (.slice a0 h.rnd.length p0) (.slice a1 h.vers.length p1) (.slice a2 h.nms.length p2) v3 v4 v5).size) := infoHel18
  have HG : Hid (W.heap[w.heap.size]? = some (.cells (heL h (.slice a0 h.rnd.length p0) (.slice a1 h.vers.length p1) (.slice a2 h.nms.length p2) v3 v4 v5) 37 (0, 0))) := by rw [eW]; exact heap_alloc_new w _
  have PBW : ∀ wx, Below W.heap.size W wx → wx.heap[w.heap.size]? = some (.cells (heL h (.slice a0 h.rnd.length p0) (.slice a1 h.vers.length p1) (.slice a2 h.nms.length p2) v3 v4 v5) 37 (0, 0)) := fun wx hx => (hx.block _ (by rw [eW]; simp)).trans HG.out
  have HPB : Hid _ := And.intro PBW True.intro
  clear PBW
  clear K BW C CP PB hpk hlen hvr hvs hl1 hr hs ok env enn CE
  obtain ⟨CS, eCS⟩ : ∃ CS, CS = heL h (.slice a0 h.rnd.length p0) (.slice a1 h.vers.length p1) (.slice a2 h.nms.length p2) v3 v4 v5 := ⟨_, rfl⟩
  have ECS : Hid _ := And.intro eCS True.intro
  rw [← eCS] at eW HK HSZ HG HPB ⊢
  clear eCS e2 e4
  have HW : Hid _ := And.intro eW True.intro
  clear eW
  go_enter Tryz.func22, Tryz.ntmps22
  go_upto_if 18 with (first
    | (refine wpList_load_row rfl 37 (.tmp 1) rfl w.heap.size rfl 37 CS (0, 0) _ (heap_alloc_new w _) Tryz.underlying37 rfl HSZ.out ?_)
    | (go_at_call 20; refine HK.out.2.2.1.mono ?_; rintro e w1 ⟨rfl, b1⟩; have H1 : Hid (Below W.heap.size W w1) := (by rw [HW.out.1]; exact b1); obtain ⟨k0, k1, k2, k3, k4⟩ := HE'.out.1 w1 H1.out; clear b1)
    | (go_at_call 45; refine (HK.out.2.2.2.1 w1 H1.out).mono ?_; rintro e w2 ⟨r2, rfl, o2, b2⟩; have O2 : OutH W w2 r2 h.rnd := ⟨owns_mono o2 H1.out.size, H1.out.trans (b2.mono H1.out.size)⟩; obtain ⟨ao2, co2, ev2⟩ := O2.form; subst ev2; have H2 : Hid _ := And.intro O2 True.intro; clear k0 k1 k2 k3 k4; obtain ⟨k0, k1, k2, k3, k4⟩ := HE'.out.1 w2 O2.bel; clear o2 b2 O2))
  go_cut [4] from 5 to 45 (fun ov wx => OutH W wx ov (h.rnd ++ heV h))
  case first =>
    rcases hkd with hk | hk
    · have hkb : (h.kd == 1) = true := by rw [hk]; rfl
      have eV : heV h = (nv : Int) :: vsA h.vers nv := by unfold heV; rw [if_pos hk, EN.out.1]
      have hvs := HK.out.2.2.2.2.2.2.2.1 hk
      have HV : Hid _ := And.intro eV hvs
      clear eV hvs hk
      have AL : OutH W (w2.alloc (.cells #[.int .u8 (nv : Int)] 5)) (.slice ao2 h.rnd.length co2) h.rnd := H2.out.1.went ((Below.refl _ _).alloc (Nat.le_refl _) _)
      have HA : Hid _ := And.intro AL True.intro
      have hrl : h.rnd.length ≤ 200 := by have := HK.out.2.2.2.2.2.1.1; unfold heM at this; simp only [List.length_append, List.length_cons] at this; omega
      have hbs := AL.bel.size
      clear AL
      go_wp2_with (at_builtin; refine wpList_append_row rfl (.tmp 19) (.tmp 24) rfl W.heap.size (.slice ao2 h.rnd.length co2) h.rnd.length h.rnd rfl HA.out.1.own (.slice (some ⟨w2.heap.size, 0, none⟩) 1 1) [(nv : Int)] rfl (lit1B w2 _) (by simp; omega) hbs ?_; intro v3' w3 o3 g3; have H3 : Hid _ := HA.out.1.app o3 g3; clear o3 g3)
      go_loopg [4, 5] nv (fun q ov iv wx => ∃ k : Nat, k ≤ nv ∧ q = nv - k ∧ iv = .int .i64 (k : Int) ∧ OutH W wx ov (h.rnd ++ ((nv : Int) :: vsA h.vers k)))
      case atStart => exact ⟨0, by omega, by omega, rfl, H3.out⟩
      case round =>
        obtain ⟨k, hkn, hq, rfl, O⟩ := hrel
        rename World => wy
        clear k0 k1 k2 k3 k4
        obtain ⟨-, -, -, k3, -⟩ := HE'.out.1 wy O.bel
        obtain ⟨xs, exs⟩ : ∃ xs, xs = h.rnd ++ ((nv : Int) :: vsA h.vers k) := ⟨_, rfl⟩
        rw [← exs] at O
        obtain ⟨aoo, coo, evo⟩ := O.form
        subst evo
        have hol : xs.length = h.rnd.length + 1 + 4 * k := by
          rw [exs, List.length_append, List.length_cons, vsA_len h.vers k (by rw [← EN.out.1]; exact hkn)]; omega
        have HO : Hid _ := And.intro O (And.intro hol (And.intro hq exs))
        clear O hol hq exs
        by_cases hlt : k < nv
        · have rv := (HK.out.1.below HO.out.1.bel).r1
          rw [← EN.out.1] at rv
          obtain ⟨b, off, c', ea, hb', hc'⟩ := rv.at (by rw [← EN.out.1]; omega)
          rw [← EN.out.1] at ea hc'
          cases ea
          have cx := hc' k hlt
          have hx := HV.out.2 k (by rw [← EN.out.1]; exact hlt)
          obtain ⟨x, ex⟩ : ∃ x, x = h.vers.getD k 0 := ⟨_, rfl⟩
          rw [← ex] at cx hx
          have D1 := digits 4 x wy (by omega) (by omega) (by decide)
          have HX : Hid _ := And.intro ex (And.intro D1 True.intro)
          clear rv hc' ex D1
          go_wp2_with (first
            | (go_at_call 46; refine HX.out.2.1.mono ?_; rintro e w4 ⟨r4, rfl, o4, b4⟩; have H4 : Hid _ := And.intro (HO.out.1.went b4) (row_of_owns o4); clear o4 b4)
            | (at_builtin; refine wpList_append_row rfl (.tmp 33) (.tmp 39) rfl W.heap.size (.slice aoo xs.length coo) xs.length xs rfl H4.out.1.own r4 (be x 4) rfl H4.out.2 (by rw [HO.out.2.1, be_length]; omega) H4.out.1.bel.size ?_; intro v5' w5 o5 g5; have H5 : Hid _ := H4.out.1.app o5 g5; clear o5 g5))
          go_roundg (nv - (k + 1))
          case measure => (have := HO.out.2.2.1; omega)
          case rel =>
            refine ⟨k + 1, by omega, rfl, by go_num, ?_⟩
            have t := H5.out
            rw [HX.out.1, HO.out.2.2.2, List.append_assoc, List.cons_append, ← vsA_succ h.vers k (by rw [← EN.out.1]; exact hlt)] at t
            exact t
        · obtain rfl : k = nv := by omega
          go_wp2_with fail
          go_meet
          rw [HV.out.1, ← HO.out.2.2.2]
          exact HO.out.1
    · have hkb : (h.kd == 1) = false := by rw [hk]; rfl
      have eV : heV h = be h.vr 4 := by unfold heV; rw [if_neg (by omega)]
      have hvr := HK.out.2.2.2.2.2.2.1 hk
      have D1 := digits 4 h.vr w2 (by omega) (by omega) (by decide)
      have hrl : h.rnd.length ≤ 200 := by have := HK.out.2.2.2.2.2.1.1; unfold heM at this; simp only [List.length_append, List.length_cons] at this; omega
      have HV : Hid _ := And.intro eV D1
      clear eV hvr hk D1
      go_wp2_with (first
        | (go_at_call 46; refine HV.out.2.mono ?_; rintro e w4 ⟨r4, rfl, o4, b4⟩; have H4 : Hid _ := And.intro (H2.out.1.went b4) (row_of_owns o4); clear o4 b4)
        | (at_builtin; refine wpList_append_row rfl (.tmp 41) (.tmp 44) rfl W.heap.size (.slice ao2 h.rnd.length co2) h.rnd.length h.rnd rfl H4.out.1.own r4 (be h.vr 4) rfl H4.out.2 (by rw [be_length]; omega) H4.out.1.bel.size ?_; intro v5' w5 o5 g5; have H5 : Hid _ := H4.out.1.app o5 g5; clear o5 g5))
      go_meet
      rw [HV.out.1]
      exact H5.out
  case rest =>
  clear k0 k1 k2 k3 k4
  rename World => wc
  obtain ⟨ys, eys⟩ : ∃ ys, ys = h.rnd ++ heV h := ⟨_, rfl⟩
  rw [← eys] at hcut
  have hyl : ys.length ≤ 200 := by have := HK.out.2.2.2.2.2.1.1; unfold heM at this; rw [← eys] at this; simp only [List.length_append, List.length_cons] at this; omega
  obtain ⟨-, -, -, -, k4⟩ := HE'.out.1 wc hcut.bel
  obtain ⟨ao5, co5, ev5⟩ := hcut.form
  subst ev5
  have AL : OutH W (wc.alloc (.cells #[.int .u8 (nn : Int)] 5)) (.slice ao5 ys.length co5) ys := hcut.went ((Below.refl _ _).alloc (Nat.le_refl _) _)
  have HA : Hid _ := And.intro AL eys
  have hbs := AL.bel.size
  clear AL hcut eys
  go_wp2_with (at_builtin; refine wpList_append_row rfl (.tmp 46) (.tmp 51) rfl W.heap.size (.slice ao5 ys.length co5) ys.length ys rfl HA.out.1.own (.slice (some ⟨wc.heap.size, 0, none⟩) 1 1) [(nn : Int)] rfl (lit1B wc _) (by simp; omega) hbs ?_; intro v6' w6 o6 g6; have H6 : Hid _ := HA.out.1.app o6 g6; clear o6 g6)
  go_loopg [4, 6] nn (fun q ov iv wx => ∃ k : Nat, k ≤ nn ∧ q = nn - k ∧ iv = .int .i64 (k : Int) ∧ OutH W wx ov (ys ++ ((nn : Int) :: nmA h.nms k)))
  case atStart => exact ⟨0, by omega, by omega, rfl, H6.out⟩
  case round =>
    obtain ⟨k, hkn, hq, rfl, O⟩ := hrel
    rename World => wy
    clear k4
    obtain ⟨k0, -, -, -, k4⟩ := HE'.out.1 wy O.bel
    obtain ⟨xs, exs⟩ : ∃ xs, xs = ys ++ ((nn : Int) :: nmA h.nms k) := ⟨_, rfl⟩
    rw [← exs] at O
    obtain ⟨aoo, coo, evo⟩ := O.form
    subst evo
    have hol : xs.length ≤ 600 := by
      have := nmA_len h.nms HK.out.2.2.2.2.2.1.2.2.2.2 k (by rw [← EN.out.2]; exact hkn)
      rw [exs, List.length_append, List.length_cons]; omega
    have HO : Hid _ := And.intro O (And.intro hol (And.intro hq exs))
    clear O hol hq exs
    by_cases hlt : k < nn
    · have rv := (HK.out.1.below HO.out.1.bel).r2
      rw [← EN.out.2] at rv
      obtain ⟨aq, cq, eq', hc'⟩ := rv.cells
      rw [← EN.out.2] at eq' hc'
      cases eq'
      obtain ⟨b, off, ea, hb', cx⟩ := hc' k hlt
      subst ea
      have hx := HK.out.2.2.2.2.2.1.2.2.2.2 k (by rw [← EN.out.2]; exact hlt)
      obtain ⟨x, ex⟩ : ∃ x, x = h.nms.getD k ByteArray.empty := ⟨_, rfl⟩
      rw [← ex] at cx hx
      obtain ⟨C, W', cv, rw', bw', lw'⟩ := convSB wy x (by omega)
      have CN := cntC W.heap.size (.slice aoo xs.length coo) (.slice (some ⟨wy.heap.size, 0, none⟩) x.size C) xs (txB x) W' (HO.out.1.went bw').own rw' (fun _ k' ek' e2 => by
        have e3 : wy.heap.size = k' := by simpa [Value.ownBlock] using ek'
        have := (HO.out.1.own.lt k' e2).2
        omega) (HO.out.1.went bw').bel.size (by have := HO.out.2.1; omega) (by rw [txB_length]; omega)
      have HX : Hid _ := And.intro ex (And.intro CN (And.intro bw' True.intro))
      clear rv hc' ex CN rw' bw' hb'
      go_wp2_with (go_at_call 47; refine HX.out.2.1.mono ?_; rintro e w7 ⟨r7, rfl, o7, g7⟩; have H7 : Hid _ := (HO.out.1.went HX.out.2.2.1).gr o7 g7; clear o7 g7)
      go_roundg (nn - (k + 1))
      case measure => (have := HO.out.2.2.1; omega)
      case rel =>
        refine ⟨k + 1, by omega, rfl, by go_num, ?_⟩
        have t := H7.out
        rw [txB_length, HX.out.1, HO.out.2.2.2, List.append_assoc, List.cons_append, ← nmA_succ h.nms k (by rw [← EN.out.2]; exact hlt)] at t
        exact t
    · obtain rfl : k = nn := by omega
      obtain ⟨sv, esv⟩ : ∃ sv, sv = decide (h.kd = 2) := ⟨_, rfl⟩
      have hk2 : (h.kd == 2) = sv := by rw [esv]; rfl
      have P1 := HK.out.2.2.2.2.1 wy HO.out.1.bel
      rw [← esv] at P1
      have hM : xs = heM h := by rw [HO.out.2.2.2, HA.out.2]; unfold heM; rw [← EN.out.2]
      have hWl := HK.out.2.2.2.2.2.1.2.1
      obtain ⟨zs, ezs⟩ : ∃ zs, zs = xs ++ parB h.par sv := ⟨_, rfl⟩
      have hzW : zs = heW h := by rw [ezs, hM, esv]; rfl
      have hzl : zs.length ≤ 600 := by rw [hzW]; exact hWl
      have hpl : (parB h.par sv).length ≤ 600 := by have := hzl; rw [ezs, List.length_append] at this; omega
      obtain ⟨k0', -, -, -, -, k5, k6, k7, k8, k9, k10, k11, k12, k13, k14, k15, k16, k17⟩ := (HK.out.1.below HO.out.1.bel).cells
      have HP : Hid _ := And.intro P1 (And.intro ezs (And.intro hzW (And.intro hpl HO.out.2.1)))
      clear P1 hM hWl ezs hzW hpl esv
      go_upto_region 18 with (first
        | (go_at_call 48; refine HP.out.1.mono ?_; rintro e w7 ⟨r7, rfl, o7, b7⟩; have H7 : Hid _ := And.intro (HO.out.1.went b7) (row_of_owns o7); clear o7 b7)
        | (at_builtin; refine wpList_append_row rfl (.tmp 77) (.tmp 78) rfl W.heap.size (.slice aoo xs.length coo) xs.length xs rfl H7.out.1.own r7 (parB h.par sv) rfl H7.out.2 (by have h1 := HP.out.2.2.2.1; have h2 := HP.out.2.2.2.2; omega) H7.out.1.bel.size ?_; intro v8' w8 o8 g8; have O8 := H7.out.1.app o8 g8; rw [← HP.out.2.1] at O8; obtain ⟨ao8, co8, ev8⟩ := O8.form; subst ev8; have H8 : Hid _ := And.intro O8 True.intro; clear o8 g8 O8))
      have D1 : ∀ wx : World, Calls Tryz.prog 46 #[.int .i64 (zs.length : Int), .int .i64 2] wx fun e w' => ∃ r, e = .returned r ∧ w'.ownsRow wx.heap.size 5 1 r 2 ((be (zs.length : Int) 2).map (Value.int .u8)) ∧ Below wx.heap.size wx w' := fun wx => digits 2 (zs.length : Int) wx (by omega) (by omega) (by decide)
      have HD : Hid _ := And.intro D1 True.intro
      have hb8 := H8.out.1.bel.size
      have OD : Hid (OutH W w8.drew (.slice ao8 zs.length co8) zs) := H8.out.1.went (below_drewN (Below.refl _ _) 1)
      have OL : Hid (OutH W (w8.alloc (.cells #[.int .u8 h.kd] 5)).drew (.slice ao8 zs.length co8) zs ∧ (w8.alloc (.cells #[.int .u8 h.kd] 5)).drew.ownsRow W.heap.size 5 1 (.slice (some ⟨w8.heap.size, 0, none⟩) 1 1) 1 (([h.kd] : List Int).map (Value.int .u8))) :=
        ⟨(H8.out.1.went ((Below.refl _ _).alloc (Nat.le_refl _) _)).went (below_drewN (Below.refl _ _) 1), owns_below (lit1O w8 h.kd W.heap.size hb8) (below_drewN (Below.refl _ _) 1)⟩
      have q0 := (HE'.out.1 w8.drew OD.out.bel).1
      have q1 := (HE'.out.1 w8 H8.out.1.bel).1
      have vlt : ∀ t, (Value.slice ao8 zs.length co8).ownBlock = some t → t < w8.heap.size := fun t ht => (H8.out.1.own.lt t ht).2
      have HV : Hid _ := And.intro vlt True.intro
      clear D1 vlt k0 k4 k0' k5 k6 k7 k8 k9 k10 k11 k12 k13 k14 k15 k16 k17
      go_region_law (first
        | (go_simp; go_at_call 46; refine (HD.out.1 _).mono ?_; rintro e w9 ⟨r9, rfl, o9, b9⟩; have HA9 : Hid (OutH W w9 (.slice ao8 zs.length co8) zs ∧ Row w9 .u8 r9 (be (zs.length : Int) 2) ∧ w9.ownsRow W.heap.size 5 1 (.slice (some ⟨w8.heap.size, 0, none⟩) 1 1) 1 (([h.kd] : List Int).map (Value.int .u8))) := ⟨OL.out.1.went b9, row_of_owns o9, owns_below OL.out.2 b9⟩; have q2 := (HE'.out.1 w9 HA9.out.1.bel).1; clear o9 b9)
        | (go_simp; go_at_call 46; refine (HD.out.1 _).mono ?_; rintro e w9 ⟨r9, rfl, o9, b9⟩; have HB9 : Hid (OutH W w9 (.slice ao8 zs.length co8) zs ∧ Row w9 .u8 r9 (be (zs.length : Int) 2) ∧ w8.heap.size ≤ w9.heap.size) := ⟨OD.out.went b9, row_of_owns o9, b9.size⟩; have q2 := (HE'.out.1 w9 HB9.out.1.bel).1; clear o9 b9)
        | (refine step_append_row rfl (.tmp 83) (.tmp 86) rfl W.heap.size (.slice (some ⟨w8.heap.size, 0, none⟩) 1 1) 1 [h.kd] rfl HA9.out.2.2 r9 (be (zs.length : Int) 2) rfl HA9.out.2.1 (by rw [be_length]; omega) HA9.out.1.bel.size ?_; intro v10 w10 o10 g10; have HT : Hid (HdH W w10 v10 (.slice ao8 zs.length co8) ([h.kd] ++ be (zs.length : Int) 2) zs) := HdH.mk1 HA9.out.1 (fun t ht e => by have := HV.out.1 t ht; omega) hb8 (by rw [List.length_append, List.length_singleton]; exact o10) g10; clear o10 g10)
        | (refine step_append_row rfl (.tmp 83) (.tmp 86) rfl W.heap.size (.slice (some ⟨w9.heap.size, 0, none⟩) 1 1) 1 [h.kd] rfl (lit1O w9 h.kd W.heap.size HB9.out.1.bel.size) r9 (be (zs.length : Int) 2) rfl (HB9.out.2.1.below ((Below.refl _ _).alloc (Nat.le_refl _) _)) (by rw [be_length]; omega) (HB9.out.1.went ((Below.refl _ _).alloc (Nat.le_refl _) (.cells #[.int .u8 h.kd] 5))).bel.size ?_; intro v10 w10 o10 g10; have HT : Hid (HdH W w10 v10 (.slice ao8 zs.length co8) ([h.kd] ++ be (zs.length : Int) 2) zs) := HdH.mk1 (HB9.out.1.went ((Below.refl _ _).alloc (Nat.le_refl _) (.cells #[.int .u8 h.kd] 5))) (fun t ht e => by have h1 := HV.out.1 t ht; have h2 := HB9.out.2.2; omega) HB9.out.1.bel.size (by rw [List.length_append, List.length_singleton]; exact o10) g10; clear o10 g10)
        | (refine step_append_row rfl (.tmp 87) (.tmp 88) rfl W.heap.size v10 ([h.kd] ++ be (zs.length : Int) 2).length ([h.kd] ++ be (zs.length : Int) 2) rfl HT.out.hd (.slice ao8 zs.length co8) zs rfl (row_of_owns HT.out.out) (by rw [List.length_append, List.length_singleton, be_length]; omega) HT.out.bel.size ?_; intro v11 w11 o11 g11))
      all_goals
        have HF : Hid _ := And.intro o11 (HT.out.bel.grown g11 HT.out.bel.size (fun t ht => (HT.out.hd.lt t ht).1))
        clear o11 g11
        go_wp2_with fail
        go_ret2
        refine ⟨_, rfl, ?_, HK.out.2.1.trans (HF.out.2.mono HK.out.2.1.size)⟩
        have t := owns_mono HF.out.1 HK.out.2.1.size
        have e1 : heB h = ([h.kd] ++ be (zs.length : Int) 2) ++ zs := by unfold heB; rw [← HP.out.2.2.1]; simp
        rw [e1, List.length_append]
        exact t
end Go.Proofs.YteggfkekgdlecaaGreatDoor

namespace Go.Proofs.YteggfkekgdlecaaGreatDoor
open Go.RowKit
set_option linter.unusedVariables false

/-- The first k bytes of xs with ys laid over them. -/
def xl (xs ys : List Int) (k : Nat) : List Int := (List.range k).map fun j => bits .xor .u8 (xs.getD j 0) (ys.getD j 0)
theorem xl_length (xs ys : List Int) (k : Nat) : (xl xs ys k).length = k := by simp [xl]
theorem xl_succ (xs ys : List Int) (k : Nat) : xl xs ys (k + 1) = xl xs ys k ++ [bits .xor .u8 (xs.getD k 0) (ys.getD k 0)] := by simp [xl, List.range_succ]
theorem xor8_bd (x y : Int) : 0 ≤ bits .xor .u8 x y ∧ bits .xor .u8 x y < 256 := by
  have h : bits .xor .u8 x y = IntKind.u8.wrap ((BitVec.ofInt 8 x ^^^ BitVec.ofInt 8 y).toNat : Int) := rfl
  rw [h]
  simp [IntKind.wrap, IntKind.bits, IntKind.signed]
  omega
theorem xl_bytes (xs ys : List Int) (k : Nat) : Bytes (xl xs ys k) := by
  intro x hx
  obtain ⟨j, _, rfl⟩ := List.mem_map.1 hx
  exact xor8_bd _ _
theorem one_byte (w : World) (x : Int) : Row (w.alloc (.cells #[.int .u8 x] 5)) .u8 (.slice (some ⟨w.heap.size, 0, none⟩) 1 1) [x] := by
  refine Or.inr ⟨w.heap.size, 0, 1, rfl, by simp, ⟨Nat.le_refl _, by unfold maxLen; decide⟩, fun j hj => ?_⟩
  have : j = 0 := by simpa using hj
  subst this
  have := (MapKept.heap_alloc w (.cells #[.int .u8 x] 5)).1
  simp only [World.cell?, this]
  rfl

theorem xor_step {w wr w3 : World} {o : Obj} {v : Value} {n : Nat} {xs : List Value} (ho : wr.ownsRow w.heap.size 5 1 v n xs) (hs : w.heap.size ≤ wr.heap.size) (g : (wr.drew.alloc o).grownBy w3 v.ownBlock) : Below w.heap.size wr w3 := by
  have b1 : Below w.heap.size wr (wr.alloc o) := (Below.refl _ _).alloc hs _
  have b2 : Below w.heap.size wr (wr.drew.alloc o) := ⟨b1.os, b1.tape, b1.output, b1.size, b1.block⟩
  exact b2.grown g (Nat.le_trans hs b2.size) (fun k hk => (ho.lt k hk).1)

end Go.Proofs.YteggfkekgdlecaaGreatDoor

namespace Go.Proofs.YteggfkekgdlecaaGreatDoor
open Go.RowKit
set_option linter.unusedVariables false

set_option maxHeartbeats 400000 in
theorem catC (va vb : Value) (xs ys : List Int) (w : World) (ha : Row w .u8 va xs) (hb : Row w .u8 vb ys) (hx : xs.length ≤ 1099511627776) (hy : ys.length ≤ 1099511627776) :
    Calls Tryz.prog 24 #[va, vb] w fun e w' => ∃ r, e = .returned r ∧ w'.ownsRow w.heap.size 5 1 r (xs.length + ys.length) ((xs ++ ys).map (Value.int .u8)) ∧ Below w.heap.size w w' := by
  have WB : Below w.heap.size w (w.alloc (.cells #[] 5)) := (Below.refl _ _).alloc (Nat.le_refl _) _
  have hlit : (w.alloc (.cells #[] 5)).ownsRow w.heap.size 5 1 (.slice (some ⟨w.heap.size, 0, none⟩) 0 0) 0 (([] : List Int).map (Value.int .u8)) := World.ownsRow_lit w #[] 0 (Nat.le_refl _) (by decide) rfl
  have HH : Hid _ := And.intro (And.intro ha hb) (And.intro WB hlit)
  have hx' : 0 + xs.length ≤ 140737488355328 := by omega
  have hy' : 0 + xs.length + ys.length ≤ 140737488355328 := by omega
  have HL : Hid _ := And.intro hx' hy'
  clear ha hb WB hlit hx' hy'
  go_enter Tryz.func24, Tryz.ntmps24
  go_wp2_with (first
    | (at_builtin; refine wpList_append_row rfl (.tmp 5) (.tmp 6) rfl w.heap.size (.slice (some ⟨w.heap.size, 0, none⟩) 0 0) 0 [] rfl HH.out.2.2 va xs rfl (HH.out.1.1.below HH.out.2.1) HL.out.1 HH.out.2.1.size ?_; intro v1 w1 o1 g1)
    | (at_builtin; refine wpList_append_row rfl (.tmp 7) (.tmp 8) rfl w.heap.size v1 (0 + xs.length) ([] ++ xs) rfl o1 vb ys rfl (HH.out.1.2.below (HH.out.2.1.grown g1 HH.out.2.1.size (fun k hk => (HH.out.2.2.lt k hk).1))) HL.out.2 (HH.out.2.1.grown g1 HH.out.2.1.size (fun k hk => (HH.out.2.2.lt k hk).1)).size ?_; intro v2 w2 o2 g2))
  have b1 : Below w.heap.size w w1 := HH.out.2.1.grown g1 HH.out.2.1.size (fun k hk => (HH.out.2.2.lt k hk).1)
  have HF : Hid _ := And.intro o2 (b1.grown g2 b1.size (fun k hk => (o1.lt k hk).1))
  clear o1 o2 g1 g2 b1
  go_wp2
  go_ret
  refine ⟨_, rfl, ?_, HF.out.2⟩
  have := HF.out.1
  rw [Nat.zero_add, List.nil_append] at this
  exact this

/-- The first j blocks of the stream. -/
def sblk (ks nn : List Int) : Nat → List Int
  | 0 => []
  | j + 1 => sblk ks nn j ++ digV ks (nn ++ be (j : Int) 4)
theorem sblk_length (ks nn : List Int) (j : Nat) : (sblk ks nn j).length = 16 * j := by
  induction j with
  | zero => rfl
  | succ j ih => simp [sblk, ih, digV_length]; omega
theorem sblk_bytes (ks nn : List Int) (j : Nat) : Bytes (sblk ks nn j) := by
  induction j with
  | zero => intro x hx; simp [sblk] at hx
  | succ j ih => exact bytes_append ih (digV_bytes _ _)

theorem Book.grown {wx w' : World} {L : List (Nat × Obj)} {g : Option Nat} (h : Book wx L) (hc : wx.grownBy w' g) (hs : ∀ b o, (b, o) ∈ L → g ≠ some b) : Book w' L := ⟨fun b o hm => (hc.block b (h.lt hm) (fun e => hs b o hm e.symm)).trans (h.blk b o hm)⟩
theorem strm_step {w wr w3 w4 : World} {v v4 : Value} {ks nn : List Int} {j : Nat} {o : Obj} (hown : wr.ownsRow (w.heap.size + 1) 5 1 v (16 * j) ((sblk ks nn j).map (Value.int .u8))) (hbl : Below w.heap.size w wr) (hbk : Book wr [(w.heap.size, o)]) (d : Below wr.heap.size wr w3)
    (o4 : w4.ownsRow (w.heap.size + 1) 5 1 v4 (16 * j + (digV ks (nn ++ be (j : Int) 4)).length) ((sblk ks nn j ++ digV ks (nn ++ be (j : Int) 4)).map (Value.int .u8))) (g4 : w3.grownBy w4 v.ownBlock) :
    w4.ownsRow (w.heap.size + 1) 5 1 v4 (16 * (j + 1)) ((sblk ks nn (j + 1)).map (Value.int .u8)) ∧ Below w.heap.size w w4 ∧ Book w4 [(w.heap.size, o)] := by
  have hlt := hbk.lt (b := w.heap.size) (o := o) (by simp)
  have hb3 := hbl.trans (d.mono hbl.size)
  refine ⟨?_, ?_, ?_⟩
  · rw [digV_length] at o4
    exact o4
  · exact hb3.grown g4 hb3.size (fun k hk => by have := (hown.lt k hk).1; omega)
  · refine (hbk.below d).grown g4 (fun b o' hm e => ?_)
    have hm' : b = w.heap.size := by simp at hm; exact hm.1
    have := (hown.lt b e).1
    omega

end Go.Proofs.YteggfkekgdlecaaGreatDoor

namespace Go.Proofs.YteggfkekgdlecaaGreatDoor
open Go.RowKit
set_option linter.unusedVariables false
set_option linter.unusedSimpArgs false

/-- A struct of many cells loaded as one row, where the operation is guarded and comes up. -/
theorem wpList_load_rowG {P : Program} {ops : Array Oper} {rest : List Oper} {o : Oper} {a : Act} {w : World} {Q : Exit → Act → World → Prop} (hgd : Region.wanted o (yielded ops a.tmps) = true) (ty : TypeId) (x : Operand) (ho : o.op = .load ty x)
    (g : Nat) (hx : a.eval x = .pointer (some ⟨g, 0, none⟩)) (t : TypeId) (cs : Array Value) (fr : Nat × Nat) (d : TypeDesc) (hg : w.heap[g]? = some (.cells cs t fr))
    (hu : P.underlying ty = some d) (hd : (match d with | .struct _ | .array _ _ => true | _ => false) = true) (hi : (P.info? ty).map (·.size) = some cs.size)
    (h : wpList P ops Q rest (a.put o.dst (.agg cs)) w) : wpList P ops Q (o :: rest) a w := by
  unfold wpList
  rw [if_pos hgd]
  exact Or.inl (wp_load_row ty x ho g hx t cs fr d hg hu hd hi h)
/-- Has one of the client's first k names the server's bytes? -/
def agNk (c s : HE) : Nat → Bool
  | 0 => false
  | k + 1 => agNk c s k || decide ((c.nms.getD k ByteArray.empty).data = (s.nms.getD 0 ByteArray.empty).data)
theorem agNk_iff (c s : HE) : ∀ k, agNk c s k = true ↔ ∃ j, j < k ∧ (c.nms.getD j ByteArray.empty).data = (s.nms.getD 0 ByteArray.empty).data
  | 0 => ⟨fun h => absurd h (by simp [agNk]), fun h => by obtain ⟨j, h, _⟩ := h; omega⟩
  | k + 1 => by
    unfold agNk
    rw [Bool.or_eq_true, agNk_iff c s k, decide_eq_true_iff]
    constructor
    · rintro (⟨j, h, q⟩ | q)
      · exact ⟨j, by omega, q⟩
      · exact ⟨k, by omega, q⟩
    · rintro ⟨j, h, q⟩
      by_cases e : j = k
      · subst e; exact Or.inr q
      · exact Or.inl ⟨j, by omega, q⟩
theorem agNk_n (c s : HE) : agNk c s c.nms.length = decide (agN c s) := by
  by_cases h : agN c s
  · rw [decide_eq_true h]; exact (agNk_iff c s _).2 h
  · rw [decide_eq_false h]
    cases e : agNk c s c.nms.length with
    | false => rfl
    | true => exact absurd ((agNk_iff c s _).1 e) h
/-- What a function knows of its two hellos in every world behind W. -/
structure TwoH (W : World) (g1 g2 : Nat) (C1 C2 : Array Value) (c s : HE) (a1 b1 a2 b2 : Option Addr) (p1 q1 p2 q2 : Nat) : Prop where
  b1' : W.heap[g1]? = some (.cells C1 37 (0, 0))
  b2' : W.heap[g2]? = some (.cells C2 37 (0, 0))
  e1 : C1[0]? = some (.int .i64 c.kd) ∧ C1[3]? = some (.slice a1 c.vers.length p1) ∧ C1[4]? = some (.slice b1 c.nms.length q1)
  e2 : C2[0]? = some (.int .i64 s.kd) ∧ C2[1]? = some (.int .i64 s.vr) ∧ C2[4]? = some (.slice b2 s.nms.length q2)
  h1 : HERow W (.agg C1) c
  h2 : HERow W (.agg C2) s
  r1 : Row W .i64 (.slice a1 c.vers.length p1) c.vers
  t1 : TRow W (.slice b1 c.nms.length q1) c.nms
  t2 : TRow W (.slice b2 s.nms.length q2) s.nms
  sz : C1.size = 18 ∧ C2.size = 18
theorem TwoH.below {W W' : World} {g1 g2 : Nat} {C1 C2 : Array Value} {c s : HE} {a1 b1 a2 b2 : Option Addr} {p1 q1 p2 q2 : Nat} (h : TwoH W g1 g2 C1 C2 c s a1 b1 a2 b2 p1 q1 p2 q2) (b : Below W.heap.size W W') : TwoH W' g1 g2 C1 C2 c s a1 b1 a2 b2 p1 q1 p2 q2 :=
  ⟨(b.block _ (Array.getElem?_eq_some_iff.1 h.b1').1).trans h.b1', (b.block _ (Array.getElem?_eq_some_iff.1 h.b2').1).trans h.b2', h.e1, h.e2, h.h1.below b, h.h2.below b, h.r1.below b, h.t1.below b, h.t2.below b, h.sz⟩
theorem TwoH.cells {W : World} {g1 g2 : Nat} {C1 C2 : Array Value} {c s : HE} {a1 b1 a2 b2 : Option Addr} {p1 q1 p2 q2 : Nat} (h : TwoH W g1 g2 C1 C2 c s a1 b1 a2 b2 p1 q1 p2 q2) :
    W.cell? ⟨g1, 0, none⟩ = some (.int .i64 c.kd) ∧ W.cell? ⟨g1, 3, none⟩ = some (.slice a1 c.vers.length p1) ∧ W.cell? ⟨g1, 4, none⟩ = some (.slice b1 c.nms.length q1) ∧ W.cell? ⟨g2, 0, none⟩ = some (.int .i64 s.kd) ∧ W.cell? ⟨g2, 1, none⟩ = some (.int .i64 s.vr) ∧ W.cell? ⟨g2, 4, none⟩ = some (.slice b2 s.nms.length q2) :=
  ⟨(bk_cell h.b1' 0).trans h.e1.1, (bk_cell h.b1' 3).trans h.e1.2.1, (bk_cell h.b1' 4).trans h.e1.2.2, (bk_cell h.b2' 0).trans h.e2.1, (bk_cell h.b2' 1).trans h.e2.2.1, (bk_cell h.b2' 4).trans h.e2.2.2⟩
/-- The world in which the two hellos lie in their blocks, and the answer's block. -/
def agW (w : World) (C1 C2 : Array Value) : World := ((w.alloc (.cells C1 37)).alloc (.cells C2 37)).alloc (.cells #[.int .i64 0, .string ⟨#[]⟩, .slice none 0 0, .slice none 0 0, .slice none 0 0, .slice none 0 0, .slice none 0 0] 31)
theorem twoH_new {w : World} {v1 v2 : Value} {c s : HE} (h1 : HERow w v1 c) (h2 : HERow w v2 s) : ∃ C1 C2 a1 b1 b2 p1 q1 q2, v1 = .agg C1 ∧ v2 = .agg C2 ∧ TwoH (agW w C1 C2) w.heap.size (w.heap.size + 1) C1 C2 c s a1 b1 none b2 p1 q1 0 q2 ∧ Below w.heap.size w (agW w C1 C2) ∧ (agW w C1 C2).heap.size = w.heap.size + 1 + 1 + 1 ∧ C1.all (·.oneCell') = true ∧ C2.all (·.oneCell') = true := by
  obtain ⟨x0, x1, x2, x3, x4, x5, rfl, r0, r1, r2, r3, r4, r5⟩ := id h1
  obtain ⟨y0, y1, y2, y3, y4, y5, rfl, s0, s1, s2, s3, s4, s5⟩ := id h2
  obtain ⟨_, _, rfl⟩ := r0.form
  obtain ⟨a1, p1, rfl⟩ := r1.form
  obtain ⟨b1, q1, rfl⟩ := r2.form
  obtain ⟨_, _, rfl⟩ := r3.form
  obtain ⟨_, _, rfl⟩ := r4.form
  obtain ⟨_, _, rfl⟩ := r5.form
  obtain ⟨_, _, rfl⟩ := s0.form
  obtain ⟨_, _, rfl⟩ := s1.form
  obtain ⟨b2, q2, rfl⟩ := s2.form
  obtain ⟨_, _, rfl⟩ := s3.form
  obtain ⟨_, _, rfl⟩ := s4.form
  obtain ⟨_, _, rfl⟩ := s5.form
  refine ⟨_, _, a1, b1, b2, p1, q1, q2, rfl, rfl, ?_, ?_, ?_, ?_, ?_⟩
  · have B : ∀ (o1 o2 o3 : Obj), Below w.heap.size w (((w.alloc o1).alloc o2).alloc o3) := fun o1 o2 o3 => (((Below.refl _ _).alloc (Nat.le_refl _) _).alloc (by simp) _).alloc (by simp; omega) _
    have h3 := bk_new3 w
    exact ⟨(h3 _ _ _).1, (h3 _ _ _).2.1, ⟨rfl, rfl, rfl⟩, ⟨rfl, rfl, rfl⟩, h1.below (B _ _ _), h2.below (B _ _ _), r1.below (B _ _ _), r2.below (B _ _ _), s2.below (B _ _ _), rfl, rfl⟩
  · exact (((Below.refl _ _).alloc (Nat.le_refl _) _).alloc (by simp) _).alloc (by simp; omega) _
  · unfold agW; simp
  · simp [Value.oneCell']
  · simp [Value.oneCell']
end Go.Proofs.YteggfkekgdlecaaGreatDoor

namespace Go.Proofs.YteggfkekgdlecaaGreatDoor
open Go
set_option linter.unusedVariables false

section
variable {P : Program} {ops : Array Oper} {Q : Exit → Act → World → Prop} {md : Region.Mode}

/-- Each operation waits for earlier ones alone. -/
def early (ops : Array Oper) : Bool := (List.range ops.size).all fun j => match ops[j]? with
  | some o => o.after.all fun e => decide (e.on < j)
  | none => true
theorem early_spec (h : early ops = true) {j : Nat} {o : Oper} (ho : ops[j]? = some o) : ∀ e ∈ o.after, e.on < j := by
  have hj : j < ops.size := (Array.getElem?_eq_some_iff.1 ho).1
  have := List.all_eq_true.1 h j (List.mem_range.2 hj)
  rw [ho] at this
  intro e he
  simpa using Array.all_eq_true_iff_forall_mem.1 this e he
theorem getD_in {l : Array Bool} {j : Nat} (h : j < l.size) (b c : Bool) : l.getD j b = l.getD j c := by simp [Array.getD, h]
/-- Nothing may come up: all have come up. -/
theorem all_of_ready {l : Array Bool} (he : early ops = true) (hs : l.size = ops.size) (hr : Region.ready md ops l = []) : ∀ j, j < ops.size → l.getD j false = true := by
  intro j
  induction j using Nat.strongRecOn with
  | ind j ih =>
    intro hj
    cases h : l.getD j false with
    | true => rfl
    | false =>
      exfalso
      have hm : j ∈ Region.ready md ops l := by
        refine mem_ready.2 ⟨by rw [getD_in (by omega) true false]; exact h, ops[j], Array.getElem?_eq_getElem hj, fun e hem _ => ?_⟩
        have hlt := early_spec he (Array.getElem?_eq_getElem hj) e hem
        exact ih e.on hlt (by omega)
      rw [hr] at hm
      cases hm
theorem count_set {l : Array Bool} {j : Nat} (hj : j < l.size) (h : l.getD j true = false) : (l.setIfInBounds j true).toList.count false + 1 = l.toList.count false := by
  have hx : l.toList[j]? = some false := by
    have h2 : l[j] = false := by simpa [Array.getD, hj] using h
    rw [Array.getElem?_toList, Array.getElem?_eq_getElem hj, h2]
  rw [Array.toList_setIfInBounds]
  generalize l.toList = L at hx
  clear h hj
  induction L generalizing j with
  | nil => simp at hx
  | cons b r ih =>
    cases j with
    | zero =>
      simp only [List.getElem?_cons_zero, Option.some.injEq] at hx
      subst hx
      simp
    | succ j =>
      rw [List.getElem?_cons_succ] at hx
      have := ih hx
      cases b <;> simp <;> omega
/-- A region that draws its order, by what holds amid it: each operation is carried out once, whatever has come up ahead of it. -/
theorem any_inv (Inv : (Nat → Bool) → Act → World → Prop) (he : early ops = true)
    (step : ∀ (f : Nat → Bool) (a : Act) (w : World) (j : Nat) (o : Oper), Inv f a w → ops[j]? = some o → f j = false → (∀ e ∈ o.after, Region.binds md e = true → f e.on = true) →
      ∀ K : Act → World → Prop, (∀ a' w', Inv (fun i => i == j || f i) a' w' → K a' w') → if Region.wanted o (yielded ops a.tmps) = true then Oper.wp P o a w K Q else K (a.put o.dst undef) w)
    (done : ∀ (f : Nat → Bool) (a : Act) (w : World), Inv f a w → (∀ j, j < ops.size → f j = true) → Q .normal a w) :
    ∀ (n : Nat) (l : Array Bool) (a : Act) (w : World), l.size = ops.size → l.toList.count false ≤ n → Inv (fun i => l.getD i false) a w → wpAny P md ops Q n l a w := by
  intro n
  induction n with
  | zero =>
    intro l a w hs hc hi
    have hr : Region.ready md ops l = [] := by
      cases h : Region.ready md ops l with
      | nil => rfl
      | cons j r =>
        exfalso
        have hj : j ∈ Region.ready md ops l := by rw [h]; exact List.mem_cons_self ..
        obtain ⟨h1, o, ho, _⟩ := mem_ready.1 hj
        have hjl : j < l.size := by rw [hs]; exact (Array.getElem?_eq_some_iff.1 ho).1
        have := count_set hjl h1
        omega
    exact ⟨hr, done _ a w hi (all_of_ready he hs hr)⟩
  | succ n ih =>
    intro l a w hs hc hi
    refine ⟨fun hr => done _ a w hi (all_of_ready he hs hr), fun j hj => ?_⟩
    obtain ⟨h1, o, ho, hall⟩ := mem_ready.1 hj
    have hjl : j < l.size := by rw [hs]; exact (Array.getElem?_eq_some_iff.1 ho).1
    refine wpOp_step ho (fun K hK => step _ a w j o hi ho (by show l.getD j false = false; rw [getD_in hjl false true]; exact h1) hall K (fun a' w' hi' => hK a' w' (ih _ a' w' (by simpa using hs) (by have := count_set hjl h1; omega) ?_)))
    have e : (fun i => (l.setIfInBounds j true).getD i false) = fun i => i == j || l.getD i false := by
      funext i
      by_cases hij : i = j
      · subst hij; simp [Array.getD, hjl]
      · have : (i == j) = false := by simpa using hij
        rw [this, Bool.false_or]
        by_cases hi2 : i < l.size
        · simp [Array.getD, hi2, Ne.symm hij]
        · simp [Array.getD, hi2]
    rw [e]
    exact hi'
theorem region_I {id : Nat} {a : Act} {w : World} (Inv : (Nat → Bool) → Act → World → Prop) (hm : P.follows .mixedOrders = true) (he : early ops = true)
    (step : ∀ (f : Nat → Bool) (a : Act) (w : World) (j : Nat) (o : Oper), Inv f a w → ops[j]? = some o → f j = false → (∀ e ∈ o.after, Region.binds .any e = true → f e.on = true) →
      ∀ K : Act → World → Prop, (∀ a' w', Inv (fun i => i == j || f i) a' w' → K a' w') → if Region.wanted o (yielded ops a.tmps) = true then Oper.wp P o a w K Q else K (a.put o.dst undef) w)
    (done : ∀ (f : Nat → Bool) (a : Act) (w : World), Inv f a w → (∀ j, j < ops.size → f j = true) → Q .normal a w)
    (h : Inv (fun _ => false) a w.drew) : (Code.region id ops true).wp P Q a w := by
  refine wp_region_any hm (any_inv Inv he step done _ _ _ _ (by simp) (by simp) ?_)
  have e : (fun i => (Array.replicate ops.size false).getD i false) = fun _ => false := by
    funext i
    simp only [Array.getD]
    split <;> simp
  rw [e]
  exact h
end
end Go.Proofs.YteggfkekgdlecaaGreatDoor

namespace Go.Proofs.YteggfkekgdlecaaGreatDoor
open Go.RowKit
set_option linter.unusedVariables false
set_option linter.unusedSimpArgs false

theorem results_rtA {P : Program} {fn : Func} {p q : Tmp} {ty : TypeId} (h : fn.results = #[.cell p ty, .tmp q]) (tmps : Array Value) (w : World) (g : Nat) (t : TypeId) (cs : Array Value) (fr : Nat × Nat) (d : TypeDesc) (u : Value)
    (hp : tmps.getD p undef = .pointer (some ⟨g, 0, none⟩)) (hq : tmps.getD q undef = u) (hg : w.heap[g]? = some (.cells cs t fr))
    (hu : P.underlying ty = some d) (hd : (match d with | .struct _ | .array _ _ => true | _ => false) = true) (hi : (P.info? ty).map (·.size) = some cs.size) :
    (results fn tmps).run P w = .ok (.tuple #[.agg cs, u]) w := by
  have hp' : tmps[p]?.getD undef = .pointer (some ⟨g, 0, none⟩) := by simpa using hp
  have hq' : tmps[q]?.getD undef = u := by simpa using hq
  simp [results, h, hp', hq', asAddr, run_loadVar_row w g t ty cs fr d hg hu hd hi]
theorem grown_transA {a b c : World} {r : Option Nat} (h : a.grownBy b r) (k : b.grownBy c r) : a.grownBy c r :=
  ⟨k.os.trans h.os, k.tape.trans h.tape, k.output.trans h.output, Nat.le_trans h.size k.size, fun i hi hr => (k.block i (Nat.lt_of_lt_of_le hi h.size) hr).trans (h.block i hi hr)⟩
theorem grown_setA (w : World) (g o : Nat) (u : Value) : w.grownBy (w.setCell ⟨g, o, none⟩ u) (some g) :=
  ⟨rfl, rfl, rfl, by simp [World.setCell], fun k _ hk => Below.heap_setCell _ _ _ _ (fun e => hk (by rw [e]))⟩
theorem infoAG7 : (Tryz.prog.info? 31).map (·.size) = some 7 := by kernel_rfl
/-- A whole agreement stored. -/
def put7A (w : World) (g : Nat) (x0 x1 x2 x3 x4 x5 x6 : Value) : World := ((((((w.setCell ⟨g, 0, none⟩ x0).setCell ⟨g, 1, none⟩ x1).setCell ⟨g, 2, none⟩ x2).setCell ⟨g, 3, none⟩ x3).setCell ⟨g, 4, none⟩ x4).setCell ⟨g, 5, none⟩ x5).setCell ⟨g, 6, none⟩ x6
theorem put7A_heap {w : World} {g : Nat} {y0 y1 y2 y3 y4 y5 y6 : Value} {T : TypeId} (h : w.heap[g]? = some (.cells #[y0, y1, y2, y3, y4, y5, y6] T (0, 0))) (x0 x1 x2 x3 x4 x5 x6 : Value) : (put7A w g x0 x1 x2 x3 x4 x5 x6).heap[g]? = some (.cells #[x0, x1, x2, x3, x4, x5, x6] T (0, 0)) := by
  have t := bk_set (bk_set (bk_set (bk_set (bk_set (bk_set (bk_set h 0 x0) 1 x1) 2 x2) 3 x3) 4 x4) 5 x5) 6 x6
  unfold put7A
  simpa using t
theorem put7A_grown (w : World) (g : Nat) (x0 x1 x2 x3 x4 x5 x6 : Value) : w.grownBy (put7A w g x0 x1 x2 x3 x4 x5 x6) (some g) :=
  grown_transA (grown_transA (grown_transA (grown_transA (grown_transA (grown_transA (grown_setA w g 0 x0) (grown_setA _ g 1 x1)) (grown_setA _ g 2 x2)) (grown_setA _ g 3 x3)) (grown_setA _ g 4 x4)) (grown_setA _ g 5 x5)) (grown_setA _ g 6 x6)
theorem ownsBlkA {w w' : World} {base e s n b : Nat} {v : Value} {xs : List Value} {cs : Array Value} {T : TypeId} (ho : w.ownsRow base e s v n xs) (g : w.grownBy w' (some b)) (hb : w.heap[b]? = some (.cells cs T (0, 0))) (hT : e ≠ T) : w'.ownsRow base e s v n xs := by
  obtain ⟨hl, h2⟩ := ho
  refine ⟨hl, ?_⟩
  rcases h2 with h2 | ⟨q, cap, cur, rfl, hg, hp, r⟩
  · exact Or.inl h2
  · refine Or.inr ⟨q, cap, cur, rfl, hg, (g.block q (Array.getElem?_eq_some_iff.1 hp).1 (fun e2 => ?_)).trans hp, r⟩
    have e3 : q = b := Option.some.inj e2
    rw [e3, hb] at hp
    have e4 := Option.some.inj hp
    injection e4 with _ t
    exact hT t.symm
theorem AGOwn.blkA {w w' : World} {base b : Nat} {v0 v1 v2 v3 v4 : Value} {z : AG} {cs : Array Value} (h : AGOwn w base v0 v1 v2 v3 v4 z) (g : w.grownBy w' (some b)) (hb : w.heap[b]? = some (.cells cs 31 (0, 0))) : AGOwn w' base v0 v1 v2 v3 v4 z :=
  ⟨ownsBlkA h.o0 g hb (by decide), ownsBlkA h.o1 g hb (by decide), ownsBlkA h.o2 g hb (by decide), ownsBlkA h.o3 g hb (by decide), ownsBlkA h.o4 g hb (by decide), h.ap⟩
theorem AGOwn.below {w w' : World} {base : Nat} {v0 v1 v2 v3 v4 : Value} {z : AG} (k : AGOwn w base v0 v1 v2 v3 v4 z) (hb : Below w.heap.size w w') : AGOwn w' base v0 v1 v2 v3 v4 z :=
  ⟨owns_below k.o0 hb, owns_below k.o1 hb, owns_below k.o2 hb, owns_below k.o3 hb, owns_below k.o4 hb, k.ap⟩
/-- What was made before a call has no block of what the call makes. -/
theorem apart_old {w w' : World} {base e s n m e2 s2 : Nat} {v r : Value} {xs ys : List Value} (h : w.ownsRow base e s v n xs) (h2 : w'.ownsRow w.heap.size e2 s2 r m ys) : Apart v r := fun g hg hr => by
  have a := (h.lt g hg).2
  have b := (h2.lt g hr).1
  omega
theorem apart_nilL (v : Value) : Apart (.slice none 0 0) v := fun g h => by cases h
theorem apart_nilR (v : Value) : Apart v (.slice none 0 0) := fun g _ h => by cases h
theorem Apart.symmA {u v : Value} (h : Apart u v) : Apart v u := fun g hv hu => h g hu hv
theorem own_formA {w : World} {base e s n : Nat} {v : Value} {xs : List Value} (h : w.ownsRow base e s v n xs) : ∃ a c, v = .slice a n c := by
  rcases h.2 with ⟨q, rfl⟩ | ⟨g, cap, cur, rfl, _⟩
  · exact ⟨_, _, q⟩
  · exact ⟨_, _, rfl⟩
theorem setRow_grownA (w : World) (g : Nat) (cs : Array Value) : w.grownBy (w.setRow g cs) (some g) :=
  ⟨rfl, rfl, rfl, by simp, fun k _ hk => setRow_other w g k cs (fun e => hk (by rw [e]))⟩
/-- The model's box with what it puts together. -/
structure ABx (W wx : World) (bx : Nat) (z : AG) (v0 v1 v2 v3 v4 : Value) : Prop where
  bk : wx.heap[bx]? = some (.cells #[.int .i64 z.vr, .string z.nm, v0, v1, v2, v3, v4] 31 (0, 0))
  ow : AGOwn wx W.heap.size v0 v1 v2 v3 v4 z
  bl : Below W.heap.size W wx
  bb : W.heap.size ≤ bx
theorem ABx.set2 {W wx wy : World} {bx : Nat} {z : AG} {v0 v1 r : Value} {ys : List Int} (h : ABx W wx bx z v0 v1 (.slice none 0 0) (.slice none 0 0) (.slice none 0 0)) (hr : wy.ownsRow wx.heap.size 5 1 r ys.length (ys.map (Value.int .u8))) (hb : Below wx.heap.size wx wy) (e2 : z.s2 = []) (e3 : z.ck = []) : ABx W (wy.setCell ⟨bx, 4, none⟩ r) bx { z with c2 := ys } v0 v1 r (.slice none 0 0) (.slice none 0 0) := by
  have hy := (hb.block _ (Array.getElem?_eq_some_iff.1 h.bk).1).trans h.bk
  have g := grown_setA wy bx 4 r
  have k := h.ow.below hb
  have hz := h.bl.size
  have hk := bk_set hy 4 r
  refine ⟨by simpa using hk, ⟨ownsBlkA k.o0 g hy (by decide), ownsBlkA k.o1 g hy (by decide), ownsBlkA (owns_mono hr hz) g hy (by decide), by show World.ownsRow _ _ _ _ _ _ _; rw [e2]; exact World.ownsRow_nil _ _ _ _, by show World.ownsRow _ _ _ _ _ _ _; rw [e3]; exact World.ownsRow_nil _ _ _ _, ?_⟩, (h.bl.trans (hb.mono hz)).grown g (Nat.le_trans hz hb.size) (fun q hq => by have := Option.some.inj hq; have := h.bb; omega), h.bb⟩
  have a := h.ow.ap
  simp only [List.pairwise_cons, List.mem_cons, List.not_mem_nil, or_false, forall_eq_or_imp, forall_eq] at a ⊢
  exact ⟨⟨a.1.1, apart_old h.ow.o0 hr, apart_nilR _, apart_nilR _⟩, ⟨apart_old h.ow.o1 hr, apart_nilR _, apart_nilR _⟩, ⟨apart_nilR _, apart_nilR _⟩, apart_nilR _, by simp⟩
theorem ABx.set3 {W wx wy : World} {bx : Nat} {z : AG} {v0 v1 v2 r : Value} {ys : List Int} (h : ABx W wx bx z v0 v1 v2 (.slice none 0 0) (.slice none 0 0)) (hr : wy.ownsRow wx.heap.size 5 1 r ys.length (ys.map (Value.int .u8))) (hb : Below wx.heap.size wx wy) (e3 : z.ck = []) : ABx W (wy.setCell ⟨bx, 5, none⟩ r) bx { z with s2 := ys } v0 v1 v2 r (.slice none 0 0) := by
  have hy := (hb.block _ (Array.getElem?_eq_some_iff.1 h.bk).1).trans h.bk
  have g := grown_setA wy bx 5 r
  have k := h.ow.below hb
  have hz := h.bl.size
  have hk := bk_set hy 5 r
  refine ⟨by simpa using hk, ⟨ownsBlkA k.o0 g hy (by decide), ownsBlkA k.o1 g hy (by decide), ownsBlkA k.o2 g hy (by decide), ownsBlkA (owns_mono hr hz) g hy (by decide), by show World.ownsRow _ _ _ _ _ _ _; rw [e3]; exact World.ownsRow_nil _ _ _ _, ?_⟩, (h.bl.trans (hb.mono hz)).grown g (Nat.le_trans hz hb.size) (fun q hq => by have := Option.some.inj hq; have := h.bb; omega), h.bb⟩
  have a := h.ow.ap
  simp only [List.pairwise_cons, List.mem_cons, List.not_mem_nil, or_false, forall_eq_or_imp, forall_eq] at a ⊢
  exact ⟨⟨a.1.1, a.1.2.1, apart_old h.ow.o0 hr, apart_nilR _⟩, ⟨a.2.1.1, apart_old h.ow.o1 hr, apart_nilR _⟩, ⟨apart_old h.ow.o2 hr, apart_nilR _⟩, apart_nilR _, by simp⟩
theorem ABx.set4 {W wx wy : World} {bx : Nat} {z : AG} {v0 v1 v2 v3 r : Value} {ys : List Int} (h : ABx W wx bx z v0 v1 v2 v3 (.slice none 0 0)) (hr : wy.ownsRow wx.heap.size 5 1 r ys.length (ys.map (Value.int .u8))) (hb : Below wx.heap.size wx wy) : ABx W (wy.setCell ⟨bx, 6, none⟩ r) bx { z with ck := ys } v0 v1 v2 v3 r := by
  have hy := (hb.block _ (Array.getElem?_eq_some_iff.1 h.bk).1).trans h.bk
  have g := grown_setA wy bx 6 r
  have k := h.ow.below hb
  have hz := h.bl.size
  have hk := bk_set hy 6 r
  refine ⟨by simpa using hk, ⟨ownsBlkA k.o0 g hy (by decide), ownsBlkA k.o1 g hy (by decide), ownsBlkA k.o2 g hy (by decide), ownsBlkA k.o3 g hy (by decide), ownsBlkA (owns_mono hr hz) g hy (by decide), ?_⟩, (h.bl.trans (hb.mono hz)).grown g (Nat.le_trans hz hb.size) (fun q hq => by have := Option.some.inj hq; have := h.bb; omega), h.bb⟩
  have a := h.ow.ap
  simp only [List.pairwise_cons, List.mem_cons, List.not_mem_nil, or_false, forall_eq_or_imp, forall_eq] at a ⊢
  exact ⟨⟨a.1.1, a.1.2.1, a.1.2.2.1, apart_old h.ow.o0 hr⟩, ⟨a.2.1.1, a.2.1.2.1, apart_old h.ow.o1 hr⟩, ⟨a.2.2.1.1, apart_old h.ow.o2 hr⟩, apart_old h.ow.o3 hr, by simp⟩
end Go.Proofs.YteggfkekgdlecaaGreatDoor

namespace Go.Proofs.YteggfkekgdlecaaGreatDoor
open Go
set_option linter.unusedVariables false

section
variable {P : Program} {ops : Array Oper} {Q : Exit → Act → World → Prop} {md : Region.Mode}

/-- Each operation waits for earlier ones alone, but for what binds in other modes (late stores). -/
def earlyA (ops : Array Oper) : Bool := (List.range ops.size).all fun j => match ops[j]? with
  | some o => o.after.all fun e => !Region.binds .any e || decide (e.on < j)
  | none => true
theorem earlyA_spec (h : earlyA ops = true) {j : Nat} {o : Oper} (ho : ops[j]? = some o) : ∀ e ∈ o.after, Region.binds .any e = true → e.on < j := by
  have hj : j < ops.size := (Array.getElem?_eq_some_iff.1 ho).1
  have := List.all_eq_true.1 h j (List.mem_range.2 hj)
  rw [ho] at this
  intro e he hb
  have h2 := Array.all_eq_true_iff_forall_mem.1 this e he
  rw [hb] at h2
  simpa using h2
/-- Nothing may come up: all have come up. -/
theorem all_of_readyA {l : Array Bool} (he : earlyA ops = true) (hs : l.size = ops.size) (hr : Region.ready .any ops l = []) : ∀ j, j < ops.size → l.getD j false = true := by
  intro j
  induction j using Nat.strongRecOn with
  | ind j ih =>
    intro hj
    cases h : l.getD j false with
    | true => rfl
    | false =>
      exfalso
      have hm : j ∈ Region.ready .any ops l := by
        refine mem_ready.2 ⟨by rw [getD_in (by omega) true false]; exact h, ops[j], Array.getElem?_eq_getElem hj, fun e hem hb => ?_⟩
        have hlt := earlyA_spec he (Array.getElem?_eq_getElem hj) e hem hb
        exact ih e.on hlt (by omega)
      rw [hr] at hm
      cases hm
theorem any_invA (Inv : (Nat → Bool) → Act → World → Prop) (he : earlyA ops = true)
    (step : ∀ (f : Nat → Bool) (a : Act) (w : World) (j : Nat) (o : Oper), Inv f a w → ops[j]? = some o → f j = false → (∀ e ∈ o.after, Region.binds .any e = true → f e.on = true) →
      ∀ K : Act → World → Prop, (∀ a' w', Inv (fun i => i == j || f i) a' w' → K a' w') → if Region.wanted o (yielded ops a.tmps) = true then Oper.wp P o a w K Q else K (a.put o.dst undef) w)
    (done : ∀ (f : Nat → Bool) (a : Act) (w : World), Inv f a w → (∀ j, j < ops.size → f j = true) → Q .normal a w) :
    ∀ (n : Nat) (l : Array Bool) (a : Act) (w : World), l.size = ops.size → l.toList.count false ≤ n → Inv (fun i => l.getD i false) a w → wpAny P .any ops Q n l a w := by
  intro n
  induction n with
  | zero =>
    intro l a w hs hc hi
    have hr : Region.ready .any ops l = [] := by
      cases h : Region.ready .any ops l with
      | nil => rfl
      | cons j r =>
        exfalso
        have hj : j ∈ Region.ready .any ops l := by rw [h]; exact List.mem_cons_self ..
        obtain ⟨h1, o, ho, _⟩ := mem_ready.1 hj
        have hjl : j < l.size := by rw [hs]; exact (Array.getElem?_eq_some_iff.1 ho).1
        have := count_set hjl h1
        omega
    exact ⟨hr, done _ a w hi (all_of_readyA he hs hr)⟩
  | succ n ih =>
    intro l a w hs hc hi
    refine ⟨fun hr => done _ a w hi (all_of_readyA he hs hr), fun j hj => ?_⟩
    obtain ⟨h1, o, ho, hall⟩ := mem_ready.1 hj
    have hjl : j < l.size := by rw [hs]; exact (Array.getElem?_eq_some_iff.1 ho).1
    refine wpOp_step ho (fun K hK => step _ a w j o hi ho (by show l.getD j false = false; rw [getD_in hjl false true]; exact h1) hall K (fun a' w' hi' => hK a' w' (ih _ a' w' (by simpa using hs) (by have := count_set hjl h1; omega) ?_)))
    have e : (fun i => (l.setIfInBounds j true).getD i false) = fun i => i == j || l.getD i false := by
      funext i
      by_cases hij : i = j
      · subst hij; simp [Array.getD, hjl]
      · have : (i == j) = false := by simpa using hij
        rw [this, Bool.false_or]
        by_cases hi2 : i < l.size
        · simp [Array.getD, hi2, Ne.symm hij]
        · simp [Array.getD, hi2]
    rw [e]
    exact hi'
/-- region_I for regions with late stores. -/
theorem region_J {id : Nat} {a : Act} {w : World} (Inv : (Nat → Bool) → Act → World → Prop) (hm : P.follows .mixedOrders = true) (he : earlyA ops = true)
    (step : ∀ (f : Nat → Bool) (a : Act) (w : World) (j : Nat) (o : Oper), Inv f a w → ops[j]? = some o → f j = false → (∀ e ∈ o.after, Region.binds .any e = true → f e.on = true) →
      ∀ K : Act → World → Prop, (∀ a' w', Inv (fun i => i == j || f i) a' w' → K a' w') → if Region.wanted o (yielded ops a.tmps) = true then Oper.wp P o a w K Q else K (a.put o.dst undef) w)
    (done : ∀ (f : Nat → Bool) (a : Act) (w : World), Inv f a w → (∀ j, j < ops.size → f j = true) → Q .normal a w)
    (h : Inv (fun _ => false) a w.drew) : (Code.region id ops true).wp P Q a w := by
  refine wp_region_any hm (any_invA Inv he step done _ _ _ _ (by simp) (by simp) ?_)
  have e : (fun i => (Array.replicate ops.size false).getD i false) = fun _ => false := by
    funext i
    simp only [Array.getD]
    split <;> simp
  rw [e]
  exact h
end
end Go.Proofs.YteggfkekgdlecaaGreatDoor
