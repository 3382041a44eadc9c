import Derived.Test.YtoalillggafnpaaGreatDoorVals
import Derived.Test.YtoalillggafnpaaGreatDoorMem
import Derived.Test.YtoalillggafnpaaGreatDoorAppRow
import Derived.BigRegion
import Derived.Laws.Rows
import Derived.Deep.RegionWith
import Derived.Deep.CutRange
import Derived.Test.YtoalillggafnpaaGreatDoorToBytes
import Derived.Test.YtoalillggafnpaaGreatDoorPjA
import Derived.Lib.SlBytesConst
import Derived.Test.YtoalillggafnpaaGreatDoorKeys
import Derived.Laws.IdiomStrings
import Derived.ArgAppend
import Derived.Test.YtoalillggafnpaaGreatDoorBlocks
import Derived.Test.YtoalillggafnpaaGreatDoorBook
namespace Go.Proofs.YtoalillggafnpaaGreatDoor
open Go.RowKit
set_option linter.unusedVariables false

theorem blkS_cell {w : World} {g : Nat} {c : Array Value} {t : TypeId} {fr : Nat × Nat} (h : w.heap[g]? = some (.cells c t fr)) (o : Nat) : w.cell? ⟨g, o, none⟩ = c[o]? := by
  simp [World.cell?, h]
theorem blkS_free {w : World} {g : Nat} {c : Array Value} {t : TypeId} (h : w.heap[g]? = some (.cells c t (0, 0))) (o : Nat) : w.frozen? ⟨g, o, none⟩ = false := by
  simp [World.frozen?, h]
theorem one_row (w : World) (x : Int) : Row (w.alloc (.cells #[.int .u8 x] 5)) .u8 (.slice (some ⟨w.heap.size, 0, none⟩) 1 1) [x] := by
  refine Or.inr ⟨w.heap.size, 0, 1, rfl, by simp, ⟨Nat.le_refl _, by unfold maxLen; decide⟩, fun j hj => ?_⟩
  have : j = 0 := by simpa using hj
  subst this
  rw [blkS_cell (MapKept.heap_alloc w _).1]
  rfl
/-- A list of rows of bytes, as '...' hands it on. -/
structure Parts (w : World) (vp : Value) (L : List (List Int)) : Prop where
  at' : ∃ p cap, vp = .slice (some ⟨p, 0, none⟩) L.length cap ∧ p < w.heap.size ∧ ∀ j, j < L.length → ∃ v, w.cell? ⟨p, j, none⟩ = some v ∧ Row w .u8 v (L.getD j [])
theorem flat_take (L : List (List Int)) (k : Nat) (hk : k < L.length) : (L.take (k + 1)).flatten = (L.take k).flatten ++ L.getD k [] := by
  rw [List.take_add_one, List.flatten_append]
  simp [List.getD, hk]
theorem Parts.below {w w' : World} {v : Value} {L : List (List Int)} (h : Parts w v L) (hb : Below w.heap.size w w') : Parts w' v L := by
  obtain ⟨p, cap, rfl, hp, hc⟩ := h.at'
  refine ⟨p, cap, rfl, by have := hb.size; omega, fun j hj => ?_⟩
  obtain ⟨v, hv, hr⟩ := hc j hj
  exact ⟨v, (hb.cell (p := ⟨p, j, none⟩) hp).trans hv, hr.below hb⟩
/-- One part, two parts. -/
theorem parts1 {w : World} {v : Value} {xs : List Int} (h : Row w .u8 v xs) (t : TypeId) : Parts (w.alloc (.cells #[v] t)) (.slice (some ⟨w.heap.size, 0, none⟩) 1 1) [xs] := by
  refine ⟨w.heap.size, 1, rfl, by simp, fun j hj => ?_⟩
  obtain rfl : j = 0 := by simp at hj; omega
  exact ⟨v, by rw [blkS_cell (MapKept.heap_alloc w _).1]; rfl, h.below ((Below.refl _ _).alloc (Nat.le_refl _) _)⟩
theorem parts2 {w : World} {v v2 : Value} {xs ys : List Int} (h : Row w .u8 v xs) (h2 : Row w .u8 v2 ys) (t : TypeId) : Parts (w.alloc (.cells #[v, v2] t)) (.slice (some ⟨w.heap.size, 0, none⟩) 2 2) [xs, ys] := by
  refine ⟨w.heap.size, 2, rfl, by simp, fun j hj => ?_⟩
  have hb := (Below.refl w.heap.size w).alloc (Nat.le_refl _) (.cells #[v, v2] t)
  rcases (show j = 0 ∨ j = 1 by simp at hj; omega) with rfl | rfl
  · exact ⟨v, by rw [blkS_cell (MapKept.heap_alloc w _).1]; rfl, h.below hb⟩
  · exact ⟨v2, by rw [blkS_cell (MapKept.heap_alloc w _).1]; rfl, h2.below hb⟩
theorem bytes_getD2 {xs ys : List Int} (hx : Bytes xs) (hy : Bytes ys) (j : Nat) : Bytes ([xs, ys].getD j []) := by
  match j with
  | 0 => exact hx
  | 1 => exact hy
  | n + 2 => intro x h; simp [List.getD] at h
theorem bytes_getD1 {xs : List Int} (hx : Bytes xs) (j : Nat) : Bytes ([xs].getD j []) := by
  match j with
  | 0 => exact hx
  | n + 1 => intro x h; simp [List.getD] at h
end Go.Proofs.YtoalillggafnpaaGreatDoor

namespace Go.Proofs.YtoalillggafnpaaGreatDoor
open Go.RowKit
set_option linter.unusedVariables false

theorem infoU8 : (Tryz.prog.info? 5).map (fun i => (i.zero, i.size, i.bytes)) = some (some (.int .u8 0), 1, 1) := by kernel_rfl

/-- The n lowest bytes of v, the highest first. -/
def be (v : Int) : Nat → List Int
  | 0 => []
  | n + 1 => be (v / 256) n ++ [v % 256]

theorem be_length (v : Int) (n : Nat) : (be v n).length = n := by
  induction n generalizing v with
  | zero => rfl
  | succ n ih => simp [be, ih]

theorem digits_nil (v : Int) (w : World) :
    Calls Tryz.prog 42 #[.int .i64 v, .int .i64 0] w fun e w' => ∃ r, e = .returned r ∧ w'.ownsRow w.heap.size 5 1 r 0 ([].map (Value.int .u8)) ∧ Below w.heap.size w w' := by
  go_enter Tryz.func42, Tryz.ntmps42
  go_wp2
  go_ret
  refine ⟨_, rfl, ?_, (Below.refl _ _).alloc (Nat.le_refl _) _⟩
  exact World.ownsRow_lit w #[] 0 (Nat.le_refl _) (by decide) rfl

set_option maxHeartbeats 400000 in
theorem digits (n : Nat) : ∀ (v : Int) (w : World), 0 ≤ v → v ≤ 9223372036854775807 → n ≤ 8 →
    Calls Tryz.prog 42 #[.int .i64 v, .int .i64 n] w fun e w' => ∃ r, e = .returned r ∧ w'.ownsRow w.heap.size 5 1 r n ((be v n).map (Value.int .u8)) ∧ Below w.heap.size w w' := by
  induction n with
  | zero => intro v w _ _ _; exact digits_nil v w
  | succ n ih =>
    intro v w h0 h1 hn
    obtain ⟨i0, hi, hz0, hz1, hz2⟩ := info_parts infoU8
    have hne : (((n : Int) + 1) == 0) = false := by simp; omega
    have IH : ∀ w : World, Calls Tryz.prog 42 #[.int .i64 (v / 256), .int .i64 n] w fun e w' => ∃ r, e = .returned r ∧ w'.ownsRow w.heap.size 5 1 r n ((be (v / 256) n).map (Value.int .u8)) ∧ Below w.heap.size w w' :=
      fun w => ih (v / 256) w (by omega) (by omega) (by omega)
    clear ih
    have e1 : (((n + 1 : Nat) : Int)) = (n : Int) + 1 := by omega
    rw [e1]
    clear e1
    go_enter Tryz.func42, Tryz.ntmps42
    go_wp2_with (first
      | (go_at_call 42; refine (IH _).mono ?_; rintro e w1 ⟨r, rfl, hown, hb⟩)
      | (at_builtin; refine wpList_append_own _ rfl _ _ 22 rfl w.heap.size 5 i0 (.int .u8 0) 1 1 Tryz.underlying22 hi hz0 hz1 hz2 rfl (by decide) _ _ _ rfl (hown.alloc _) ⟨w1.heap.size, 0, none⟩ 1 1 [.int .u8 (v % 256)] rfl rfl ?c1 ?c2 ?c3 ?c4 ?c5 ?_))
    case c1 =>
      intro j u hj
      match j, hj with
      | 0, hj => simp at hj; subst hj; simp [Addr.add]
    case c2 => intro u hu; simp at hu; subst hu; rfl
    case c3 => unfold maxLen; omega
    case c4 => omega
    case c5 => have := hb.size; simp; omega
    intro v' w2 hown' hgrow _
    go_wp2
    go_ret
    refine ⟨v', rfl, ?_, ?_⟩
    · have : (be (v / 256) n).map (Value.int .u8) ++ [Value.int .u8 (v % 256)] = (be v (n + 1)).map (Value.int .u8) := by simp [be]
      rw [← this]
      exact hown'
    · refine (hb.alloc hb.size _).grown hgrow (by have := hb.size; simp; omega) ?_
      intro k hk
      exact (hown.lt k hk).1
end Go.Proofs.YtoalillggafnpaaGreatDoor

namespace Go.Proofs.YtoalillggafnpaaGreatDoor
open Go.RowKit
set_option linter.unusedVariables false

/-- A version, and both ids with their lengths ahead. -/
def idsV (v : Int) (d s : List Int) : List Int := (((be v 4 ++ [(d.length : Int)]) ++ d) ++ [(s.length : Int)]) ++ s
theorem idsV_length (v : Int) (d s : List Int) : (idsV v d s).length = 6 + d.length + s.length := by simp [idsV, be_length]; omega
theorem wrap8 (n : Nat) (h : n ≤ 8) : IntKind.u8.wrap (n : Int) = (n : Int) := by rw [IntKind.wrap_u8]; omega
set_option maxRecDepth 20000 in
set_option maxHeartbeats 2000000 in
theorem idsC (v : Int) (ad asv : Option Addr) (n m pd ps : Nat) (d s : List Int) (w : World) (h0 : 0 ≤ v) (h1 : v ≤ 9223372036854775807) (rd : Row w .u8 (.slice ad n pd) d) (rs : Row w .u8 (.slice asv m ps) s) (ed : d.length = n) (es : s.length = m) (hn : n ≤ 8) (hm : m ≤ 8) :
    Calls Tryz.prog 34 #[.int .i64 v, .slice ad n pd, .slice asv m ps] w fun e w' => ∃ r, e = .returned r ∧ w'.ownsRow w.heap.size 5 1 r (idsV v d s).length ((idsV v d s).map (Value.int .u8)) ∧ Below w.heap.size w w' := by
  have HH : Hid _ := And.intro rd (And.intro rs (And.intro ed es))
  have e1 := wrap8 n hn
  have e2 := wrap8 m hm
  clear rd rs ed es
  go_enter Tryz.func34, Tryz.ntmps34
  go_wp2_with fail
  go_at_call 42
  refine (digits 4 v w h0 h1 (by decide)).mono ?_
  rintro e w1 ⟨r1, rfl, o1, b1⟩
  have H1 : Hid _ := And.intro o1 b1
  clear o1 b1
  have P1 : Hid _ := And.intro (H1.out.1.alloc (.cells #[.int .u8 (n : Int)] 5)) (H1.out.2.alloc H1.out.2.size (.cells #[.int .u8 (n : Int)] 5))
  go_wp2_with (first
    | (at_builtin; refine wpList_append_row rfl (.tmp 10) (.tmp 14) rfl w.heap.size r1 4 (be v 4) rfl P1.out.1 _ [(n : Int)] rfl (one_row w1 _) (by simp) P1.out.2.size ?_; intro q2 w2 o2 g2; have H2 : Hid _ := And.intro o2 (P1.out.2.grown g2 P1.out.2.size (fun q hq => (P1.out.1.lt q hq).1)); clear o2 g2)
    | (at_builtin; refine wpList_append_row rfl (.tmp 16) (.tmp 17) rfl w.heap.size q2 _ _ rfl H2.out.1 _ d rfl (HH.out.1.below H2.out.2) (by rw [HH.out.2.2.1]; simp; omega) H2.out.2.size ?_; intro q3 w3 o3 g3; have H3 : Hid _ := And.intro o3 (H2.out.2.grown g3 H2.out.2.size (fun q hq => (H2.out.1.lt q hq).1)); have P3 : Hid _ := And.intro (H3.out.1.alloc (.cells #[.int .u8 (m : Int)] 5)) (H3.out.2.alloc H3.out.2.size (.cells #[.int .u8 (m : Int)] 5)); clear o3 g3)
    | (at_builtin; refine wpList_append_row rfl (.tmp 19) (.tmp 23) rfl w.heap.size q3 _ _ rfl P3.out.1 _ [(m : Int)] rfl (one_row w3 _) (by rw [HH.out.2.2.1]; simp; omega) P3.out.2.size ?_; intro q4 w4 o4 g4; have H4 : Hid _ := And.intro o4 (P3.out.2.grown g4 P3.out.2.size (fun q hq => (P3.out.1.lt q hq).1)); clear o4 g4)
    | (at_builtin; refine wpList_append_row rfl (.tmp 25) (.tmp 26) rfl w.heap.size q4 _ _ rfl H4.out.1 _ s rfl (HH.out.2.1.below H4.out.2) (by rw [HH.out.2.2.1, HH.out.2.2.2]; simp; omega) H4.out.2.size ?_; intro q5 w5 o5 g5; have H5 : Hid _ := And.intro o5 (H4.out.2.grown g5 H4.out.2.size (fun q hq => (H4.out.1.lt q hq).1)); clear o5 g5))
  go_ret
  refine ⟨_, rfl, ?_, H5.out.2⟩
  have := H5.out.1
  have el : (idsV v d s).length = 4 + [(n : Int)].length + d.length + [(m : Int)].length + s.length := by simp [idsV, be_length] <;> omega
  rw [el]
  unfold idsV
  rw [HH.out.2.2.1, HH.out.2.2.2] at *
  exact this
end Go.Proofs.YtoalillggafnpaaGreatDoor

namespace Go.Proofs.YtoalillggafnpaaGreatDoor
open Go.RowKit
set_option linter.unusedVariables false

/-- 32 bits turned left. -/
def rot7 (x : Int) : Int := bits .or .u32 (x * 128 % 4294967296) (x / 33554432)
def rot13 (x : Int) : Int := bits .or .u32 (x * 8192 % 4294967296) (x / 524288)
def rot17 (x : Int) : Int := bits .or .u32 (x * 131072 % 4294967296) (x / 32768)
/-- A number of 32 bits. -/
def U32 (x : Int) : Prop := 0 ≤ x ∧ x < 4294967296
theorem bits32_or (x y : Int) : U32 (bits .or .u32 x y) := by
  have h : bits .or .u32 x y = IntKind.u32.wrap ((BitVec.ofInt 32 x ||| BitVec.ofInt 32 y).toNat : Int) := rfl
  rw [h, IntKind.wrap_u32]
  unfold U32
  omega
theorem bits32_xor (x y : Int) : U32 (bits .xor .u32 x y) := by
  have h : bits .xor .u32 x y = IntKind.u32.wrap ((BitVec.ofInt 32 x ^^^ BitVec.ofInt 32 y).toNat : Int) := rfl
  rw [h, IntKind.wrap_u32]
  unfold U32
  omega

theorem rot_7 (x : Int) (w : World) (h0 : 0 ≤ x) (h1 : x < 4294967296) : Calls Tryz.prog 93 #[.int .u32 x, .int .i64 7] w fun e w' => e = .returned (.int .u32 (rot7 x)) ∧ w' = w := by
  go_enter Tryz.func93, Tryz.ntmps93
  go_wp2
  go_ret
  exact ⟨rfl, rfl⟩
theorem rot_13 (x : Int) (w : World) (h0 : 0 ≤ x) (h1 : x < 4294967296) : Calls Tryz.prog 93 #[.int .u32 x, .int .i64 13] w fun e w' => e = .returned (.int .u32 (rot13 x)) ∧ w' = w := by
  go_enter Tryz.func93, Tryz.ntmps93
  go_wp2
  go_ret
  exact ⟨rfl, rfl⟩
theorem rot_17 (x : Int) (w : World) (h0 : 0 ≤ x) (h1 : x < 4294967296) : Calls Tryz.prog 93 #[.int .u32 x, .int .i64 17] w fun e w' => e = .returned (.int .u32 (rot17 x)) ∧ w' = w := by
  go_enter Tryz.func93, Tryz.ntmps93
  go_wp2
  go_ret
  exact ⟨rfl, rfl⟩

/-- The digest's four numbers. -/
structure S4 where
  a : Int
  b : Int
  c : Int
  d : Int
def S4.ok (s : S4) : Prop := U32 s.a ∧ U32 s.b ∧ U32 s.c ∧ U32 s.d
def S4.val (s : S4) : Value := .agg #[.int .u32 s.a, .int .u32 s.b, .int .u32 s.c, .int .u32 s.d]
def stA (s : S4) (v : Int) : Int := bits .xor .u32 s.a v * 16777619 % 4294967296
def stB (s : S4) (v : Int) : Int := rot7 ((s.b + bits .xor .u32 s.a v * 16777619) % 4294967296)
def stC (s : S4) (v : Int) : Int := rot13 (bits .xor .u32 s.c (stB s v))
def stD (s : S4) (v : Int) : Int := rot17 ((s.d + stC s v) % 4294967296)
/-- A byte stirred in. -/
def stir1 (s : S4) (v : Int) : S4 := ⟨bits .xor .u32 (stA s v) (stD s v), stB s v, stC s v, stD s v⟩
def stirL (s : S4) (xs : List Int) : S4 := xs.foldl stir1 s
theorem stir1_ok (s : S4) (v : Int) : (stir1 s v).ok := ⟨bits32_xor _ _, bits32_or _ _, bits32_or _ _, bits32_or _ _⟩
theorem stirL_ok (s : S4) (xs : List Int) (h : s.ok) : (stirL s xs).ok := by
  induction xs generalizing s with
  | nil => exact h
  | cons x xs ih => exact ih _ (stir1_ok s x)
theorem stirL_append (s : S4) (xs ys : List Int) : stirL s (xs ++ ys) = stirL (stirL s xs) ys := by simp [stirL]
theorem stirL_take (s : S4) (xs : List Int) (k : Nat) (hk : k < xs.length) : stirL s (xs.take (k + 1)) = stir1 (stirL s (xs.take k)) (xs.getD k 0) := by
  rw [List.take_add_one, stirL_append]
  simp [stirL, List.getD, hk]
end Go.Proofs.YtoalillggafnpaaGreatDoor

namespace Go.Proofs.YtoalillggafnpaaGreatDoor
open Go.RowKit
set_option linter.unusedVariables false

theorem blkS_setCell {w : World} {g : Nat} {c : Array Value} {t : TypeId} {fr : Nat × Nat} (h : w.heap[g]? = some (.cells c t fr)) (o : Nat) (u : Value) : (w.setCell ⟨g, o, none⟩ u).heap[g]? = some (.cells (c.setIfInBounds o u) t fr) := by
  simp only [World.setCell, Array.getElem?_modify, if_true]
  rw [h]
  rfl
theorem blkS_other {w : World} {g k : Nat} (hk : k ≠ g) (o : Nat) (u : Value) : (w.setCell ⟨g, o, none⟩ u).heap[k]? = w.heap[k]? := Below.heap_setCell _ _ _ _ hk
/-- The state lies in block g, the answer's room behind it; below w's end nothing has turned. -/
structure StirAt (w wr : World) (g : Nat) (s : S4) : Prop where
  blk : wr.heap[g]? = some (.cells #[.int .u32 s.a, .int .u32 s.b, .int .u32 s.c, .int .u32 s.d] 112 (0, 0))
  out : wr.heap[g + 1]? = some (.cells #[.int .u32 0, .int .u32 0, .int .u32 0, .int .u32 0] 112 (0, 0))
  bel : Below w.heap.size w wr

theorem infoS4 : (Tryz.prog.info? 112).map (·.size) = some 4 := by kernel_rfl
theorem StirAt.drew {w wr : World} {g : Nat} {s : S4} (h : StirAt w wr g s) : StirAt w wr.drew g s := ⟨h.blk, h.out, ⟨h.bel.os, h.bel.tape, h.bel.output, h.bel.size, h.bel.block⟩⟩

theorem stir_none (s : S4) (hs : s.ok) (ao : Option Addr) (cap : Nat) (w : World) :
    Calls Tryz.prog 72 #[s.val, .slice ao 0 cap] w fun e w' => e = .returned s.val ∧ Below w.heap.size w w' := by
  obtain ⟨a, b, c, d⟩ := s
  unfold S4.val
  simp only
  clear hs
  go_enter Tryz.func72, Tryz.ntmps72
  go_wp2
  refine wp_loop_rounds 1 ?_
  rw [rounds_succ]
  go_wp2
  refine bodyPost_ret (v := .agg #[.int .u32 a, .int .u32 b, .int .u32 c, .int .u32 d]) (by simp [results, Tryz.results72, go_sem]) rfl ⟨rfl, ?_⟩
  exact ((Below.refl _ _).alloc (Nat.le_refl _) _).alloc (by simp) _

theorem two_newS (w : World) (o1 o2 : Obj) : ((w.alloc o1).alloc o2).heap[w.heap.size]? = some o1 ∧ ((w.alloc o1).alloc o2).heap[w.heap.size + 1]? = some o2 := by
  have h1 := (MapKept.heap_alloc w o1).1
  have h2 := (MapKept.heap_alloc (w.alloc o1) o2).1
  have e : (w.alloc o1).heap.size = w.heap.size + 1 := by simp
  refine ⟨?_, by rw [← e]; exact h2⟩
  rw [Below.heap_alloc (w.alloc o1) o2 _ (by rw [e]; omega)]
  exact h1

/-- What a round of the stirring leaves. -/
theorem stirAt_step {w wr : World} {t : S4} {x : Int} (h : StirAt w wr w.heap.size t) (w' : World) (e : w'.heap = (wr.setCell ⟨w.heap.size, 0, none⟩ (.int .u32 (stA t x))).heap) (eo : w'.os = wr.os) (et : w'.tape = wr.tape) (eu : w'.output = wr.output) :
    StirAt w ((((w'.setCell ⟨w.heap.size, 1, none⟩ (.int .u32 (stB t x))).setCell ⟨w.heap.size, 2, none⟩ (.int .u32 (stC t x))).setCell ⟨w.heap.size, 3, none⟩ (.int .u32 (stD t x))).setCell ⟨w.heap.size, 0, none⟩ (.int .u32 (stir1 t x).a)) w.heap.size (stir1 t x) := by
  have hb := blkS_setCell h.blk 0 (.int .u32 (stA t x))
  have ho : (wr.setCell ⟨w.heap.size, 0, none⟩ (.int .u32 (stA t x))).heap[w.heap.size + 1]? = _ := (blkS_other (by omega) 0 _).trans h.out
  have hbel : Below w.heap.size w (wr.setCell ⟨w.heap.size, 0, none⟩ (.int .u32 (stA t x))) := h.bel.setCell (Nat.le_refl _) _
  rw [← e] at hb ho
  have hbel' : Below w.heap.size w w' := ⟨eo.trans h.bel.os, et.trans h.bel.tape, eu.trans h.bel.output, by rw [e]; exact hbel.size, fun k hk => by rw [e]; exact hbel.block k hk⟩
  refine ⟨?_, ?_, (((hbel'.setCell (Nat.le_refl _) _).setCell (Nat.le_refl _) _).setCell (Nat.le_refl _) _).setCell (Nat.le_refl _) _⟩
  · rw [blkS_setCell (blkS_setCell (blkS_setCell (blkS_setCell hb 1 _) 2 _) 3 _) 0 _]
    rfl
  · rw [blkS_other (by omega), blkS_other (by omega), blkS_other (by omega), blkS_other (by omega)]
    exact ho

set_option maxHeartbeats 2000000 in
theorem stir_some (s : S4) (hs : s.ok) (b off cap n : Nat) (xs : List Int) (w : World) (hn : 0 < n) (hl : xs.length = n) (hn1 : n ≤ 4611686018427387903) (hb : b < w.heap.size) (hB : Bytes xs)
    (hc : ∀ j, j < n → w.cell? ⟨b, off + j, none⟩ = some (.int .u8 (xs.getD j 0))) :
    Calls Tryz.prog 72 #[s.val, .slice (some ⟨b, off, none⟩) n cap] w fun e w' => e = .returned (stirL s xs).val ∧ Below w.heap.size w w' := by
  have HC : Hid _ := And.intro hc (And.intro hB (And.intro hl hs))
  clear hc hB hl
  have e0 : s.val = .agg #[.int .u32 s.a, .int .u32 s.b, .int .u32 s.c, .int .u32 s.d] := rfl
  rw [e0]
  clear e0 hs
  go_enter Tryz.func72, Tryz.ntmps72
  go_wp2
  go_loopw [5] (fun i wr => ∃ k : Nat, k ≤ n ∧ i = .int .i64 (k : Int) ∧ StirAt w wr w.heap.size (stirL s (xs.take k))) (fun i _ => n - (intOf i).toNat)
  case atStart => exact ⟨0, by omega, rfl, ⟨(two_newS _ _ _).1, (two_newS _ _ _).2, ((Below.refl _ _).alloc (Nat.le_refl _) _).alloc (by simp) _⟩⟩
  case round =>
    obtain ⟨k, hk, rfl, st⟩ := hrel
    have ok := stirL_ok s (xs.take k) HC.out.2.2.2
    by_cases hlt : k < n
    · have es := stirL_take s xs k (by have := HC.out.2.2.1; omega)
      have bx := HC.out.2.1.at k
      have cx := (st.bel.cell (p := ⟨b, off + k, none⟩) hb).trans (HC.out.1 k hlt)
      obtain ⟨t, et⟩ : ∃ t, t = stirL s (xs.take k) := ⟨_, rfl⟩
      rw [← et] at st ok es
      obtain ⟨x, ex⟩ : ∃ x, x = xs.getD k 0 := ⟨_, rfl⟩
      rw [← ex] at bx cx es
      have HE : Hid (stirL s (xs.take (k + 1)) = stir1 t x) := es
      have c0 : wr.cell? ⟨w.heap.size, 0, none⟩ = some (.int .u32 t.a) := by rw [blkS_cell st.blk]; rfl
      have c1 : wr.cell? ⟨w.heap.size, 1, none⟩ = some (.int .u32 t.b) := by rw [blkS_cell st.blk]; rfl
      have c2 : wr.cell? ⟨w.heap.size, 2, none⟩ = some (.int .u32 t.c) := by rw [blkS_cell st.blk]; rfl
      have c3 : wr.cell? ⟨w.heap.size, 3, none⟩ = some (.int .u32 t.d) := by rw [blkS_cell st.blk]; rfl
      have f0 := blkS_free st.blk 0
      have f1 := blkS_free st.blk 1
      have f2 := blkS_free st.blk 2
      have f3 := blkS_free st.blk 3
      have hne : b ≠ w.heap.size := by omega
      have HS : Hid _ := st
      obtain ⟨⟨a0, a1⟩, ⟨b0, b1⟩, ⟨g0, g1⟩, ⟨d0, d1⟩⟩ := ok
      clear st es ex et
      have uA : U32 (stA t x) := by unfold U32 stA; omega
      have uB : U32 (stB t x) := bits32_or _ _
      have uC : U32 (stC t x) := bits32_or _ _
      have uD : U32 (stD t x) := bits32_or _ _
      go_wp2
      go_region
      go_wp2_with fail
      go_at_call 93
      refine (rot_7 _ _ ?_ ?_).mono ?_
      · omega
      · omega
      rintro e w' ⟨rfl, rfl⟩
      go_wp2_with fail
      go_at_call 93
      refine (rot_13 _ _ (bits32_xor _ _).1 (bits32_xor _ _).2).mono ?_
      rintro e w' ⟨rfl, rfl⟩
      go_wp2_with fail
      go_at_call 93
      refine (rot_17 _ _ ?_ ?_).mono ?_
      · omega
      · omega
      rintro e w' ⟨rfl, rfl⟩
      go_wp2
      go_roundw
      case rel =>
        refine ⟨k + 1, by omega, by go_num, ?_⟩
        rw [HE.out]
        exact (stirAt_step (x := x) HS.out (wr.setCell ⟨w.heap.size, 0, none⟩ (.int .u32 (stA t x))) rfl rfl rfl rfl).drew
      case measure => simp [intOf]; omega
    · obtain rfl : k = n := by omega
      have el : xs.take k = xs := List.take_of_length_le (by have := HC.out.2.2.1; omega)
      rw [el] at st ok
      obtain ⟨t, et⟩ : ∃ t, t = stirL s xs := ⟨_, rfl⟩
      rw [← et] at st ok
      have c0 : wr.cell? ⟨w.heap.size, 0, none⟩ = some (.int .u32 t.a) := by rw [blkS_cell st.blk]; rfl
      have c1 : wr.cell? ⟨w.heap.size, 1, none⟩ = some (.int .u32 t.b) := by rw [blkS_cell st.blk]; rfl
      have c2 : wr.cell? ⟨w.heap.size, 2, none⟩ = some (.int .u32 t.c) := by rw [blkS_cell st.blk]; rfl
      have c3 : wr.cell? ⟨w.heap.size, 3, none⟩ = some (.int .u32 t.d) := by rw [blkS_cell st.blk]; rfl
      have f0 := blkS_free st.out 0
      have f1 := blkS_free st.out 1
      have f2 := blkS_free st.out 2
      have f3 := blkS_free st.out 3
      have o0 : wr.cell? ⟨w.heap.size + 1, 0, none⟩ = some (.int .u32 0) := by rw [blkS_cell st.out]; rfl
      have o1 : wr.cell? ⟨w.heap.size + 1, 1, none⟩ = some (.int .u32 0) := by rw [blkS_cell st.out]; rfl
      have o2 : wr.cell? ⟨w.heap.size + 1, 2, none⟩ = some (.int .u32 0) := by rw [blkS_cell st.out]; rfl
      have o3 : wr.cell? ⟨w.heap.size + 1, 3, none⟩ = some (.int .u32 0) := by rw [blkS_cell st.out]; rfl
      have HS : Hid _ := And.intro st et
      clear st et
      go_wp2
      try simp only [Exit.inBlock, Exit.then]
      refine bodyPost_ret (v := .agg #[.int .u32 t.a, .int .u32 t.b, .int .u32 t.c, .int .u32 t.d]) ?_ rfl ?_
      · refine results_cell_row (t := 112) rfl _ _ (w.heap.size + 1) _ (fr := (0, 0)) _ rfl ?_ Tryz.underlying112 rfl infoS4
        rw [blkS_setCell (blkS_setCell (blkS_setCell (blkS_setCell HS.out.1.out 0 _) 1 _) 2 _) 3 _]
        rfl
      · refine ⟨by rw [HS.out.2]; rfl, ?_⟩
        exact (((HS.out.1.bel.setCell (by simp) _).setCell (by simp) _).setCell (by simp) _).setCell (by simp) _

theorem stirC (s : S4) (hs : s.ok) (v : Value) (xs : List Int) (w : World) (hrow : Row w .u8 v xs) (hB : Bytes xs) (hl : xs.length ≤ 4611686018427387903) :
    Calls Tryz.prog 72 #[s.val, v] w fun e w' => e = .returned (stirL s xs).val ∧ Below w.heap.size w w' := by
  by_cases h0 : xs.length = 0
  · obtain ⟨ao, cap, rfl⟩ := hrow.form
    rw [h0, List.eq_nil_of_length_eq_zero h0]
    exact stir_none s hs ao cap w
  · obtain ⟨b, off, cap, rfl, hb, hc⟩ := hrow.at (by omega)
    exact stir_some s hs b off cap xs.length xs w (by omega) rfl hl hb hB hc
end Go.Proofs.YtoalillggafnpaaGreatDoor

namespace Go.Proofs.YtoalillggafnpaaGreatDoor
open Go.RowKit
set_option linter.unusedVariables false

def dig0 : S4 := ⟨1779033703, 3144134277, 1013904242, 2773480762⟩
theorem dig0_ok : dig0.ok := by unfold S4.ok U32 dig0; decide
/-- The four numbers of the digest of a key and data, and its bytes. -/
def digS (ks ds : List Int) : S4 := stirL (stirL (stirL (stirL (stirL dig0 (be (ks.length : Int) 4)) ks) ds) (be (ds.length : Int) 4)) (List.replicate 16 165)
def digV (ks ds : List Int) : List Int := be (digS ks ds).a 4 ++ be (digS ks ds).b 4 ++ be (digS ks ds).c 4 ++ be (digS ks ds).d 4
theorem digV_length (ks ds : List Int) : (digV ks ds).length = 16 := by simp [digV, be_length]
theorem be_bytes (v : Int) (n : Nat) : Bytes (be v n) := by
  induction n generalizing v with
  | zero => intro x hx; simp [be] at hx
  | succ n ih =>
    intro x hx
    simp only [be, List.mem_append, List.mem_singleton] at hx
    rcases hx with hx | rfl
    · exact ih _ x hx
    · omega
theorem bytes_append {xs ys : List Int} (hx : Bytes xs) (hy : Bytes ys) : Bytes (xs ++ ys) := by
  intro x h
  rcases List.mem_append.1 h with h | h
  · exact hx x h
  · exact hy x h
theorem digV_bytes (ks ds : List Int) : Bytes (digV ks ds) := bytes_append (bytes_append (bytes_append (be_bytes _ _) (be_bytes _ _)) (be_bytes _ _)) (be_bytes _ _)

/-- The digest's state lies in the first new block; below nothing has turned. -/
structure DigAt (w wx : World) (s : S4) : Prop where
  blk : wx.heap[w.heap.size]? = some (.cells #[.int .u32 s.a, .int .u32 s.b, .int .u32 s.c, .int .u32 s.d] 112 (0, 0))
  bel : Below w.heap.size w wx
theorem DigAt.lt {w wx : World} {s : S4} (h : DigAt w wx s) : w.heap.size < wx.heap.size := (Array.getElem?_eq_some_iff.1 h.blk).1
theorem DigAt.called {w wx w' : World} {s : S4} (h : DigAt w wx s) (hb : Below wx.heap.size wx w') : DigAt w w' s :=
  ⟨(hb.block _ h.lt).trans h.blk, h.bel.trans (hb.mono h.bel.size)⟩
theorem DigAt.alloc {w wx : World} {s : S4} (h : DigAt w wx s) (o : Obj) : DigAt w (wx.alloc o) s := h.called ((Below.refl _ _).alloc (Nat.le_refl _) o)
theorem DigAt.drew {w wx : World} {s : S4} (h : DigAt w wx s) : DigAt w wx.drew s := ⟨h.blk, ⟨h.bel.os, h.bel.tape, h.bel.output, h.bel.size, h.bel.block⟩⟩
theorem DigAt.stored {w wx : World} {s : S4} (h : DigAt w wx s) (t : S4) : DigAt w ((((wx.setCell ⟨w.heap.size, 0, none⟩ (.int .u32 t.a)).setCell ⟨w.heap.size, 1, none⟩ (.int .u32 t.b)).setCell ⟨w.heap.size, 2, none⟩ (.int .u32 t.c)).setCell ⟨w.heap.size, 3, none⟩ (.int .u32 t.d)) t := by
  refine ⟨?_, (((h.bel.setCell (Nat.le_refl _) _).setCell (Nat.le_refl _) _).setCell (Nat.le_refl _) _).setCell (Nat.le_refl _) _⟩
  rw [blkS_setCell (blkS_setCell (blkS_setCell (blkS_setCell h.blk 0 _) 1 _) 2 _) 3 _]
  rfl
theorem DigAt.cells {w wx : World} {s : S4} (h : DigAt w wx s) : wx.cell? ⟨w.heap.size, 0, none⟩ = some (.int .u32 s.a) ∧ wx.cell? ⟨w.heap.size, 1, none⟩ = some (.int .u32 s.b) ∧ wx.cell? ⟨w.heap.size, 2, none⟩ = some (.int .u32 s.c) ∧ wx.cell? ⟨w.heap.size, 3, none⟩ = some (.int .u32 s.d) :=
  ⟨by rw [blkS_cell h.blk]; rfl, by rw [blkS_cell h.blk]; rfl, by rw [blkS_cell h.blk]; rfl, by rw [blkS_cell h.blk]; rfl⟩
theorem DigAt.free {w wx : World} {s : S4} (h : DigAt w wx s) : wx.frozen? ⟨w.heap.size, 0, none⟩ = false ∧ wx.frozen? ⟨w.heap.size, 1, none⟩ = false ∧ wx.frozen? ⟨w.heap.size, 2, none⟩ = false ∧ wx.frozen? ⟨w.heap.size, 3, none⟩ = false :=
  ⟨blkS_free h.blk 0, blkS_free h.blk 1, blkS_free h.blk 2, blkS_free h.blk 3⟩
theorem stirD (s : S4) (hs : s.ok) (v : Value) (xs : List Int) (w : World) (hrow : Row w .u8 v xs) (hB : Bytes xs) (hl : xs.length ≤ 4611686018427387903) :
    Calls Tryz.prog 72 #[.agg #[.int .u32 s.a, .int .u32 s.b, .int .u32 s.c, .int .u32 s.d], v] w fun e w' => e = .returned (.agg #[.int .u32 (stirL s xs).a, .int .u32 (stirL s xs).b, .int .u32 (stirL s xs).c, .int .u32 (stirL s xs).d]) ∧ Below w.heap.size w w' :=
  stirC s hs v xs w hrow hB hl

theorem DigAt.grown {w wx w' : World} {s : S4} {r : Option Nat} (h : DigAt w wx s) (hg : wx.grownBy w' r) (hr : ∀ k, r = some k → w.heap.size < k) : DigAt w w' s := by
  refine ⟨(hg.block _ h.lt (fun e => by have := hr _ e.symm; omega)).trans h.blk, ⟨hg.os.trans h.bel.os, hg.tape.trans h.bel.tape, hg.output.trans h.bel.output, Nat.le_trans h.bel.size hg.size, fun k hk => ?_⟩⟩
  exact (hg.block k (Nat.lt_trans hk h.lt) (fun e => by have := hr _ e.symm; omega)).trans (h.bel.block k hk)
theorem pc_one (zs : List Int) (k : IntKind) : ∀ u, u ∈ zs.map (Value.int k) → u.oneCell' = true := by
  intro u hu
  obtain ⟨z, _, rfl⟩ := List.mem_map.1 hu
  rfl
theorem pc_cells {w : World} {base e g m cap : Nat} {zs : List Int} (h : w.ownsRow base e 1 (.slice (some ⟨g, 0, none⟩) m cap) m (zs.map (Value.int .u8))) :
    ∀ (j : Nat) (u : Value), (zs.map (Value.int .u8))[j]? = some u → w.cell? ((⟨g, 0, none⟩ : Addr).add j) = some u := by
  intro j u hj
  have hl : (zs.map (Value.int .u8)).length = m * 1 := h.1
  have hlt : j < m * 1 := by
    rw [← hl]
    exact (List.getElem?_eq_some_iff.1 hj).1
  have := h.cellAt j hlt
  rw [Go.WideShapes.add_plain, Nat.zero_add, this]
  exact hj
theorem dig_new (w : World) : DigAt w (w.alloc (.cells #[.int .u32 1779033703, .int .u32 3144134277, .int .u32 1013904242, .int .u32 2773480762] 112)) dig0 :=
  ⟨(MapKept.heap_alloc w _).1, (Below.refl _ _).alloc (Nat.le_refl _) _⟩

set_option maxRecDepth 20000 in
set_option maxHeartbeats 2000000 in
theorem specDigest (vk vd : Value) (ks ds : List Int) (w : World) (rk : Row w .u8 vk ks) (rd : Row w .u8 vd ds) (bk : Bytes ks) (bd : Bytes ds) (lk : ks.length ≤ 4611686018427387903) (ld : ds.length ≤ 4611686018427387903) :
    Calls Tryz.prog 45 #[vk, vd] w fun e w' => ∃ r, e = .returned r ∧ w'.ownsRow w.heap.size 5 1 r 16 ((digV ks ds).map (Value.int .u8)) ∧ Below w.heap.size w w' := by
  obtain ⟨i0, hi, hz0, hz1, hz2⟩ := info_parts infoU8
  obtain ⟨aok, capk, ek⟩ := rk.form
  obtain ⟨aod, capd, ed⟩ := rd.form
  subst ek ed
  obtain ⟨nk, enk⟩ : ∃ n, n = ks.length := ⟨_, rfl⟩
  obtain ⟨nd, ent⟩ : ∃ n, n = ds.length := ⟨_, rfl⟩
  rw [← enk] at lk rk ⊢
  rw [← ent] at ld rd ⊢
  have HH : Hid _ := And.intro rk (And.intro rd (And.intro bk (And.intro bd (And.intro enk ent))))
  clear rk rd bk bd enk ent
  have D0 := (dig_new w).drew
  have HD : Hid _ := D0
  clear D0
  go_enter Tryz.func45, Tryz.ntmps45
  go_upto_region 2 with fail
  go_cut [] from 9 to 13 (fun wx => DigAt w wx (stirL dig0 (be (nk : Int) 4)))
  case first =>
    go_region_with (first
      | (go_at_call 42; refine (digits 4 (nk : Int) _ ?_ ?_ ?_).mono ?_; omega; omega; decide; rintro e w2 ⟨r, rfl, o2, b2⟩; obtain ⟨c0, c1, c2, c3⟩ := (HD.out.called b2).cells; simp only [dig0] at c0 c1 c2 c3)
      | (go_at_call 72; refine (stirD dig0 dig0_ok _ _ _ (row_of_owns o2) (be_bytes _ _) ?_).mono ?_; (rw [be_length]; decide); rintro e w3 ⟨rfl, b3⟩; obtain ⟨d0, d1, d2, d3⟩ := ((HD.out.called b2).called b3).cells; obtain ⟨f0, f1, f2, f3⟩ := ((HD.out.called b2).called b3).free))
    all_goals (go_wp2_with fail; go_meet; exact ((HD.out.called b2).called b3).stored _)
  case rest =>
    have k1 := stirL_ok dig0 (be (nk : Int) 4) dig0_ok
    have E1 : Hid (stirL dig0 (be (nk : Int) 4) = stirL dig0 (be (ks.length : Int) 4)) := by rw [HH.out.2.2.2.2.1]; rfl
    generalize stirL dig0 (be (nk : Int) 4) = s1 at hcut k1 E1
    obtain ⟨c0, c1, c2, c3⟩ := hcut.cells
    have H1 : Hid _ := And.intro hcut k1
    clear hcut k1 HD
    go_wp2_with fail
    go_at_call 72
    refine (stirD s1 H1.out.2 _ ks _ (HH.out.1.below H1.out.1.bel) HH.out.2.2.1 (by have := HH.out.2.2.2.2.1; omega)).mono ?_
    rintro e w1 ⟨rfl, b1⟩
    have k2 := stirL_ok s1 ks H1.out.2
    have E2 : Hid (stirL s1 ks = stirL (stirL dig0 (be (ks.length : Int) 4)) ks) := by rw [E1.out]; rfl
    generalize stirL s1 ks = s2 at k2 E2 ⊢
    obtain ⟨d0, d1, d2, d3⟩ := (H1.out.1.called b1).cells
    obtain ⟨f0, f1, f2, f3⟩ := (H1.out.1.called b1).free
    have H2 : Hid _ := And.intro ((H1.out.1.called b1).stored s2) k2
    clear b1 k2 c0 c1 c2 c3
    go_wp2_with fail
    go_at_call 72
    refine (stirD s2 H2.out.2 _ ds _ (HH.out.2.1.below H2.out.1.bel) HH.out.2.2.2.1 (by have := HH.out.2.2.2.2.2; omega)).mono ?_
    rintro e w2 ⟨rfl, b2⟩
    have k3 := stirL_ok s2 ds H2.out.2
    have E3 : Hid (stirL s2 ds = stirL (stirL (stirL dig0 (be (ks.length : Int) 4)) ks) ds) := by rw [E2.out]; rfl
    generalize stirL s2 ds = s3 at k3 E3 ⊢
    clear d0 d1 d2 d3 f0 f1 f2 f3
    obtain ⟨d0, d1, d2, d3⟩ := (H2.out.1.called b2).cells
    obtain ⟨f0, f1, f2, f3⟩ := (H2.out.1.called b2).free
    have H3 : Hid _ := And.intro ((H2.out.1.called b2).stored s3) k3
    clear b2 k3
    go_upto_region 5 with fail
    go_cut [] from 20 to 24 (fun wx => DigAt w wx (stirL s3 (be (nd : Int) 4)))
    case first =>
      have H4 : Hid _ := H3.out.1.drew
      go_region_with (first
        | (go_at_call 42; refine (digits 4 (nd : Int) _ ?_ ?_ ?_).mono ?_; omega; omega; decide; rintro e w4 ⟨r, rfl, o4, b4⟩; obtain ⟨g0, g1, g2, g3⟩ := (H4.out.called b4).cells)
        | (go_at_call 72; refine (stirD s3 H3.out.2 _ _ _ (row_of_owns o4) (be_bytes _ _) ?_).mono ?_; (rw [be_length]; decide); rintro e w5 ⟨rfl, b5⟩; obtain ⟨m0, m1, m2, m3⟩ := ((H4.out.called b4).called b5).cells; obtain ⟨n0, n1, n2, n3⟩ := ((H4.out.called b4).called b5).free))
      all_goals (go_wp2_with fail; go_meet; exact ((H4.out.called b4).called b5).stored _)
    case rest =>
      have k4 := stirL_ok s3 (be (nd : Int) 4) H3.out.2
      have E4 : Hid (stirL s3 (be (nd : Int) 4) = stirL (stirL (stirL (stirL dig0 (be (ks.length : Int) 4)) ks) ds) (be (ds.length : Int) 4)) := by rw [E3.out, HH.out.2.2.2.2.2]; rfl
      generalize stirL s3 (be (nd : Int) 4) = s4 at hcut k4 E4
      have H4 : Hid _ := And.intro hcut k4
      clear hcut k4 d0 d1 d2 d3 f0 f1 f2 f3
      go_wp2_with fail
      go_loopw [6] (fun i wr => ∃ k : Nat, k ≤ 16 ∧ i = .int .i64 (k : Int) ∧ DigAt w wr (stirL s4 (List.replicate k 165))) (fun i _ => 16 - (intOf i).toNat)
      case atStart => exact ⟨0, by omega, rfl, H4.out.1⟩
      case round =>
        obtain ⟨k, hk, rfl, st⟩ := hrel
        have ok := stirL_ok s4 (List.replicate k 165) H4.out.2
        by_cases hlt : k < 16
        · have es : stirL s4 (List.replicate (k + 1) 165) = stirL (stirL s4 (List.replicate k 165)) [165] := by rw [List.replicate_succ', stirL_append]
          generalize stirL s4 (List.replicate k 165) = t at st ok es
          obtain ⟨c0, c1, c2, c3⟩ := st.cells
          have HS : Hid _ := And.intro st (And.intro ok es)
          clear st ok es
          go_wp2_with fail
          go_at_call 72
          refine (stirD t HS.out.2.1 _ [165] _ (one_row wr 165) (by intro x hx; simp at hx; subst hx; decide) (by decide)).mono ?_
          rintro e w5 ⟨rfl, b5⟩
          have D5 := (HS.out.1.alloc _).called b5
          obtain ⟨m0, m1, m2, m3⟩ := D5.cells
          obtain ⟨n0, n1, n2, n3⟩ := D5.free
          have H5 : Hid _ := D5.stored (stirL t [165])
          clear D5 b5 c0 c1 c2 c3
          go_wp2
          go_roundw
          case rel =>
            refine ⟨k + 1, by omega, by go_num, ?_⟩
            rw [HS.out.2.2]
            exact H5.out
          case measure => simp [intOf]; omega
        · obtain rfl : k = 16 := by omega
          have ES : Hid (stirL s4 (List.replicate 16 165) = digS ks ds) := by rw [E4.out]; rfl
          have EV : Hid (digV ks ds = be (digS ks ds).a 4 ++ be (digS ks ds).b 4 ++ be (digS ks ds).c 4 ++ be (digS ks ds).d 4) := rfl
          rw [ES.out] at st ok
          generalize digS ks ds = t at st ok EV
          obtain ⟨⟨a0, a1⟩, ⟨b0, b1⟩, ⟨g0, g1⟩, ⟨d0, d1⟩⟩ := ok
          obtain ⟨c0, c1, c2, c3⟩ := st.cells
          have HS : Hid _ := st
          clear st E1 E2 E3 E4 ES H1 H2 H3 H4
          go_wp2_with fail
          go_at_call 42
          refine (digits 4 t.a _ a0 ?_ (by decide)).mono ?_
          · omega
          rintro e w6 ⟨r1, rfl, o1, b6⟩
          have H6 : Hid _ := HS.out.called b6
          have O1 : Hid _ := owns_mono o1 (base' := w.heap.size + 1) HS.out.lt
          clear o1 b6 c0 c1 c2 c3
          obtain ⟨c0, c1, c2, c3⟩ := (H6.out).cells
          go_wp2_with fail
          go_at_call 42
          refine (digits 4 t.b _ b0 ?_ (by decide)).mono ?_
          · omega
          rintro e w7 ⟨q7, rfl, o7, b7⟩
          obtain ⟨p7, cp7, rfl, _, _⟩ := owns_shape o7 (by decide)
          have H7 : Hid _ := (H6.out).called b7
          have oo := owns_below (O1.out) b7
          have hbs : w.heap.size + 1 ≤ w7.heap.size := H7.out.lt
          go_wp2_with (at_builtin; refine wpList_append_own _ rfl _ _ 22 rfl (w.heap.size + 1) 5 i0 (.int .u8 0) 1 1 Tryz.underlying22 hi hz0 hz1 hz2 rfl (by decide) _ _ _ rfl oo ⟨p7, 0, none⟩ 4 cp7 ((be t.b 4).map (Value.int .u8)) rfl o7.1 (pc_cells o7) (pc_one _ _) (by unfold maxLen; omega) (by omega) hbs ?_; intro v8 w8 o8 g8 _; obtain ⟨x8, y8, z8, u8⟩ := (H7.out.grown g8 (fun k hk => (oo.lt k hk).1)).cells)
          have H8 : Hid _ := H7.out.grown g8 (fun k hk => (oo.lt k hk).1)
          have O8 : Hid _ := o8
          clear oo o7 b7 hbs o8 g8 c0 c1 c2 c3
          go_at_call 42
          refine (digits 4 t.c _ g0 ?_ (by decide)).mono ?_
          · omega
          rintro e w9 ⟨q9, rfl, o9, b9⟩
          obtain ⟨p9, cp9, rfl, _, _⟩ := owns_shape o9 (by decide)
          have H9 : Hid _ := (H8.out).called b9
          have oo := owns_below (O8.out) b9
          have hbs : w.heap.size + 1 ≤ w9.heap.size := H9.out.lt
          go_wp2_with (at_builtin; refine wpList_append_own _ rfl _ _ 22 rfl (w.heap.size + 1) 5 i0 (.int .u8 0) 1 1 Tryz.underlying22 hi hz0 hz1 hz2 rfl (by decide) _ _ _ rfl oo ⟨p9, 0, none⟩ 4 cp9 ((be t.c 4).map (Value.int .u8)) rfl o9.1 (pc_cells o9) (pc_one _ _) (by unfold maxLen; omega) (by omega) hbs ?_; intro v10 w10 o10 g10 _; obtain ⟨x10, y10, z10, u10⟩ := (H9.out.grown g10 (fun k hk => (oo.lt k hk).1)).cells)
          have H10 : Hid _ := H9.out.grown g10 (fun k hk => (oo.lt k hk).1)
          have O10 : Hid _ := o10
          clear oo o9 b9 hbs o10 g10 x8 y8 z8 u8
          go_at_call 42
          refine (digits 4 t.d _ d0 ?_ (by decide)).mono ?_
          · omega
          rintro e w11 ⟨q11, rfl, o11, b11⟩
          obtain ⟨p11, cp11, rfl, _, _⟩ := owns_shape o11 (by decide)
          have H11 : Hid _ := (H10.out).called b11
          have oo := owns_below (O10.out) b11
          have hbs : w.heap.size + 1 ≤ w11.heap.size := H11.out.lt
          go_wp2_with (at_builtin; refine wpList_append_own _ rfl _ _ 22 rfl (w.heap.size + 1) 5 i0 (.int .u8 0) 1 1 Tryz.underlying22 hi hz0 hz1 hz2 rfl (by decide) _ _ _ rfl oo ⟨p11, 0, none⟩ 4 cp11 ((be t.d 4).map (Value.int .u8)) rfl o11.1 (pc_cells o11) (pc_one _ _) (by unfold maxLen; omega) (by omega) hbs ?_; intro v12 w12 o12 g12 _)
          have HF : Hid _ := And.intro o12 (H11.out.grown g12 (fun k hk => (oo.lt k hk).1)).bel
          clear oo o11 b11 hbs o12 g12
          go_wp2
          go_ret
          refine ⟨_, rfl, ?_, HF.out.2⟩
          rw [EV.out, List.map_append, List.map_append, List.map_append]
          exact owns_mono HF.out.1 (Nat.le_succ _)
end Go.Proofs.YtoalillggafnpaaGreatDoor

namespace Go.Proofs.YtoalillggafnpaaGreatDoor
open Go.RowKit
set_option linter.unusedVariables false

set_option maxRecDepth 20000 in
set_option maxHeartbeats 1000000 in
/-- Whether all ids are short enough. -/
theorem icids (vp : Value) (L : List (List Int)) (w : World) (hp : Parts w vp L) (lL : L.length ≤ 1000) (hs : ∀ j, (L.getD j []).length ≤ 9223372036854775807) :
    Calls Tryz.prog 29 #[vp] w fun e w' => e = .returned (.bool (decide (∀ j, j < L.length → (L.getD j []).length ≤ 8))) ∧ w' = w := by
  obtain ⟨p, capp, rfl, hpl, hpc⟩ := hp.at'
  obtain ⟨m, em⟩ : ∃ m, m = L.length := ⟨_, rfl⟩
  have HH : Hid _ := And.intro em (And.intro hs hpc)
  rw [← em] at lL ⊢
  clear em hs hp hpc
  go_enter Tryz.func29, Tryz.ntmps29
  go_wp2_with fail
  go_loopw [7] (fun i wr => ∃ k : Nat, k ≤ m ∧ i = .int .i64 (k : Int) ∧ wr = w ∧ ∀ j, j < k → (L.getD j []).length ≤ 8) (fun i _ => m - (intOf i).toNat)
  case atStart => exact ⟨0, by omega, rfl, rfl, fun j hj => by omega⟩
  case round =>
    obtain ⟨k, hk, rfl, ewr, st⟩ := hrel
    subst wr
    by_cases hlt : k < m
    · obtain ⟨v, hv, hr⟩ := HH.out.2.2 k (by have := HH.out.1; omega)
      obtain ⟨av, cpv, rfl⟩ := hr.form
      have hlx := HH.out.2.1 k
      have H4 : Hid _ := And.intro st True.intro
      clear hr st
      obtain ⟨nx, enx⟩ : ∃ q, q = (L.getD k []).length := ⟨_, rfl⟩
      rw [← enx] at hv hlx
      have EN : Hid _ := And.intro enx True.intro
      clear enx
      by_cases h8 : nx ≤ 8
      · go_wp2
        go_roundw
        case rel =>
          refine ⟨k + 1, by omega, by go_num, by trivial, fun j hj => ?_⟩
          by_cases hjk : j = k
          · subst hjk; rw [← EN.out.1]; exact h8
          · exact H4.out.1 j (by omega)
        case measure => simp [intOf]; omega
      · go_wp2
        go_ret
        have hd : decide (∀ j, j < m → (L.getD j []).length ≤ 8) = false := decide_eq_false (fun h => by have h2 := h k hlt; rw [← EN.out.1] at h2; exact h8 h2)
        exact ⟨by rw [hd]; rfl, by trivial⟩
    · obtain rfl : k = m := by omega
      have H4 : Hid _ := And.intro st True.intro
      clear st
      go_wp2
      go_ret
      have hd : decide (∀ j, j < k → (L.getD j []).length ≤ 8) = true := decide_eq_true H4.out.1
      exact ⟨by rw [hd]; rfl, by trivial⟩
end Go.Proofs.YtoalillggafnpaaGreatDoor

namespace Go.Proofs.YtoalillggafnpaaGreatDoor
open Go.RowKit
set_option linter.unusedVariables false
set_option linter.unusedSimpArgs false

theorem owns_take {w : World} {base g cap n m : Nat} {xs : List Int} (h : w.ownsRow base 5 1 (.slice (some ⟨g, 0, none⟩) n cap) n (xs.map (Value.int .u8))) (hm : m ≤ n) : w.ownsRow base 5 1 (.slice (some ⟨g, 0, none⟩) m cap) m ((xs.take m).map (Value.int .u8)) := by
  have hl : xs.length = n := by simpa using h.1
  refine ⟨by simp; omega, ?_⟩
  rcases h.2 with ⟨e, _⟩ | ⟨g', cap', cur, e, hb, hg, h1, h2, h3, h4⟩
  · cases e
  · cases e
    refine .inr ⟨g, cap, cur, rfl, hb, hg, by omega, h2, h3, ?_⟩
    have : cur.toList.take (m * 1) = (cur.toList.take (n * 1)).take (m * 1) := by rw [List.take_take]; congr 1; omega
    rw [this, h4, List.map_take]
    simp
set_option maxRecDepth 20000 in
set_option maxHeartbeats 1000000 in
theorem grow_zero (w : World) : Calls Tryz.prog 73 #[.slice none 0 0, .int .i64 0] w fun e w' => ∃ r, e = .returned r ∧ w'.ownsRow w.heap.size 5 1 r 0 (([] : List Int).map (Value.int .u8)) ∧ Below w.heap.size w w' := by
  go_enter Tryz.func73, Tryz.ntmps73
  go_wp2
  go_ret
  exact ⟨_, rfl, World.ownsRow_nil _ _ _ _, Below.refl _ _⟩
/-- 'append(nil, make([]byte, n)...)': a new row of n zeros. -/
theorem run_append_zeros (w : World) (ty : TypeId) (n : Nat) (h0 : 0 < n) (h1 : n ≤ 1099511627776) :
    ∃ cap w', (Builtin.append_ #[22, 3] ty #[.slice none 0 0, .int .i64 (n : Int)]).run Tryz.prog w = .ok (.slice (some ⟨w.heap.size, 0, none⟩) n cap) w' ∧ w'.ownsRow w.heap.size 5 1 (.slice (some ⟨w.heap.size, 0, none⟩) 0 cap) 0 (([] : List Int).map (Value.int .u8)) ∧ cap ≤ 9223372036854775807 ∧ Below w.heap.size w w' := by
  obtain ⟨i, hi, hz, hs, hb⟩ := info_parts infoByte
  have hn : n ≠ 0 := by omega
  have h63' : ¬ (9223372036854775807 < (n : Int)) := by omega
  have h48' : ¬ (281474976710656 < Builtin.nextslicecap n 0 * i.bytes) := by rw [nextslicecap_zero h0, hb]; omega
  have hw : IntKind.i64.wrap (n : Int) = (n : Int) := by rw [IntKind.wrap_i64]; omega
  have hneg : ¬ ((n : Int) < 0) := by omega
  have hnt : ¬ ((n : Int) ≤ 0) := by omega
  have hmx : max (n : Int) 0 = (n : Int) := by omega
  have hbig : ¬ ((281474976710656 : Int) < (n : Int) * (i.bytes : Int)) := by rw [hb]; omega
  have hge := grownCap_ge w n 0 5
  have hcm : grownCap w n 0 5 ≤ maxLen := grownCap_le_maxLen w n 0 5 (by unfold maxLen; omega)
  have hne : n * i.size ≠ 0 := by rw [hs]; omega
  refine ⟨grownCap w n 0 5, w.drew.alloc (.cells (Builtin.zeroCells (Value.int .u8 0).cells n ++ Builtin.zeroCells (Value.int .u8 0).cells (grownCap w n 0 5 - n)) 5), ?_, ?_, ?_, ?_⟩
  · simp [Builtin.append_, run_underlying Tryz.underlying22, run_underlying Tryz.underlying3, sizeOf, typeInfo, zeroValue, hi, hz, hn, h63', h48', hw, hneg, hbig, hs, asInt, asIntOf, hnt, hmx, Question.forced, run_firstCells_none, newRow, grownCap]
  · refine ⟨by simp, .inr ⟨w.heap.size, _, _, rfl, Nat.le_refl _, heap_alloc_new w.drew _, Nat.zero_le _, hcm, ?_, by simp⟩⟩
    simp only [Array.size_append, size_zeroCells]
    have : (Value.int .u8 0).cells.size = 1 := by decide
    rw [this]; omega
  · unfold maxLen at hcm; omega
  · exact (below_drewN (Below.refl w.heap.size w) 1).alloc (Nat.le_refl _) _
theorem wpList_append_zeros {w : World} {ops : Array Oper} {rest : List Oper} {o : Oper} {a : Act} {Q : Exit → Act → World → Prop} (hgd : o.guard = none) (p q : Operand)
    (ho : o.op = .call { callee := .builtin .append, args := #[p, q], argTypes := #[22, 3] }) (n : Nat) (hp : a.eval p = .slice none 0 0) (hq : a.eval q = .int .i64 (n : Int)) (h0 : 0 < n) (h1 : n ≤ 1099511627776)
    (h : ∀ cap w', w'.ownsRow w.heap.size 5 1 (.slice (some ⟨w.heap.size, 0, none⟩) 0 cap) 0 (([] : List Int).map (Value.int .u8)) → cap ≤ 9223372036854775807 → Below w.heap.size w w' → wpList Tryz.prog ops Q rest (a.put o.dst (.slice (some ⟨w.heap.size, 0, none⟩) n cap)) w') :
    wpList Tryz.prog ops Q (o :: rest) a w := by
  obtain ⟨cap, w', hr, h2, h3, h4⟩ := run_append_zeros w o.type n h0 h1
  refine wpList_plain hgd fun K hK => ?_
  unfold Oper.wp execOp
  simp only [ho, resolve, invoke, builtin, Sem.run_bind, Sem.run_pure, Result.andThen_ok, List.map_toArray, List.map_cons, List.map_nil, hp, hq, hr]
  exact hK _ _ (h cap w' h2 h3 h4)
set_option maxRecDepth 20000 in
set_option maxHeartbeats 1000000 in
theorem grow_pos (n : Nat) (w : World) (h0 : 0 < n) (h1 : n ≤ 1099511627776) : Calls Tryz.prog 73 #[.slice none 0 0, .int .i64 (n : Int)] w fun e w' => ∃ r, e = .returned r ∧ w'.ownsRow w.heap.size 5 1 r 0 (([] : List Int).map (Value.int .u8)) ∧ Below w.heap.size w w' := by
  have h0' : (0 : Int) < (n : Int) := by omega
  go_enter Tryz.func73, Tryz.ntmps73
  go_wp2_with (at_builtin; refine wpList_append_zeros rfl (.tmp 20) (.tmp 21) rfl n rfl rfl h0 h1 ?_; intro cap w1 hown hcap hb; have HF : Hid _ := And.intro hown hb; clear hown hb)
  go_ret
  exact ⟨_, rfl, HF.out.1, HF.out.2⟩
theorem grow_nil (n : Nat) (w : World) (h1 : n ≤ 1099511627776) : Calls Tryz.prog 73 #[.slice none 0 0, .int .i64 (n : Int)] w fun e w' => ∃ r, e = .returned r ∧ w'.ownsRow w.heap.size 5 1 r 0 (([] : List Int).map (Value.int .u8)) ∧ Below w.heap.size w w' := by
  by_cases h0 : n = 0
  · subst h0; exact grow_zero w
  · exact grow_pos n w (by omega) h1

set_option maxRecDepth 20000 in
set_option maxHeartbeats 2000000 in
/-- slices.Concat: all parts, one behind the other, in a new row. -/
theorem iconcat (vp : Value) (L : List (List Int)) (w : World) (hp : Parts w vp L) (lL : L.length ≤ 1000) (hs : L.flatten.length ≤ 1099511627776) :
    Calls Tryz.prog 46 #[vp] w fun e w' => ∃ r, e = .returned r ∧ w'.ownsRow w.heap.size 5 1 r L.flatten.length (L.flatten.map (Value.int .u8)) ∧ Below w.heap.size w w' := by
  obtain ⟨p, capp, rfl, hpl, hpc⟩ := hp.at'
  obtain ⟨m, em⟩ : ∃ m, m = L.length := ⟨_, rfl⟩
  have fb : ∀ k, (L.take k).flatten.length ≤ 1099511627776 := fun k => by
    have : (L.take k).flatten.length ≤ L.flatten.length := by
      conv => rhs; rw [← List.take_append_drop k L]
      rw [List.flatten_append, List.length_append]
      omega
    omega
  have HH : Hid _ := And.intro em (And.intro fb (And.intro hpc hs))
  rw [← em] at lL ⊢
  clear em hs hp hpc fb
  go_enter Tryz.func46, Tryz.ntmps46
  go_wp2_with fail
  go_loopw [11, 3] (fun i c wr => ∃ k : Nat, k ≤ m ∧ i = .int .i64 (k : Int) ∧ c = .int .i64 (((L.take k).flatten.length : Nat) : Int) ∧ wr = w) (fun i _ _ => m - (intOf i).toNat)
  case atStart => exact ⟨0, by omega, rfl, by simp, rfl⟩
  case round =>
    obtain ⟨k, hk, rfl, rfl, ewr⟩ := hrel
    subst wr
    by_cases hlt : k < m
    · obtain ⟨v, hv, hr⟩ := HH.out.2.2.1 k (by have := HH.out.1; omega)
      have fl : (L.take (k + 1)).flatten.length = (L.take k).flatten.length + (L.getD k []).length := by rw [flat_take L k (by have := HH.out.1; omega), List.length_append]
      have fb := HH.out.2.1 (k + 1)
      obtain ⟨av, cpv, rfl⟩ := hr.form
      have H4 : Hid _ := And.intro fl True.intro
      have hsum : (L.take k).flatten.length + (L.getD k []).length ≤ 1099511627776 := by omega
      clear hr fl fb
      generalize (L.getD k []).length = nx at hv H4 hsum
      obtain ⟨nt, ent⟩ : ∃ q, q = (L.take k).flatten.length := ⟨_, rfl⟩
      rw [← ent] at hsum ⊢
      have EN : Hid _ := And.intro ent True.intro
      clear ent
      have hnn : ¬ ((nt : Int) + (nx : Int) < 0) := by omega
      go_wp2
      go_roundw
      case rel => exact ⟨k + 1, by omega, by go_num, by rw [H4.out.1, ← EN.out.1]; simp, by trivial⟩
      case measure => simp [intOf]; omega
    · obtain rfl : k = m := by omega
      have el : L.take k = L := List.take_of_length_le (by have := HH.out.1; omega)
      rw [el]
      have lp := HH.out.2.2.2
      obtain ⟨nt, ent⟩ : ∃ q, q = L.flatten.length := ⟨_, rfl⟩
      rw [← ent] at lp ⊢
      have EN : Hid _ := And.intro ent True.intro
      clear ent el
      go_wp2_with fail
      go_at_call 73
      refine (grow_nil nt _ lp).mono ?_
      rintro e w1 ⟨r1, rfl, o1, b1⟩
      have H1 : Hid _ := And.intro o1 b1
      clear o1 b1
      go_wp2_with fail
      go_loopw [27, 6] (fun i c wr => ∃ j : Nat, j ≤ k ∧ i = .int .i64 (j : Int) ∧ wr.ownsRow w.heap.size 5 1 c (L.take j).flatten.length ((L.take j).flatten.map (Value.int .u8)) ∧ Below w.heap.size w wr) (fun i _ _ => k - (intOf i).toNat)
      case atStart => exact ⟨0, by omega, rfl, by simpa using H1.out.1, H1.out.2⟩
      case round =>
        obtain ⟨j, hj, rfl, ow, bw⟩ := hrel
        by_cases hjt : j < k
        · obtain ⟨v, hv, hr⟩ := HH.out.2.2.1 j (by have := HH.out.1; omega)
          have cv := (bw.cell (p := ⟨p, j, none⟩) hpl).trans hv
          have ft := flat_take L j (by have := HH.out.1; omega)
          have fb := HH.out.2.1 (j + 1)
          have fl : (L.take (j + 1)).flatten.length = (L.take j).flatten.length + (L.getD j []).length := by rw [ft, List.length_append]
          have H4 : Hid _ := And.intro ow (And.intro bw (And.intro (hr.below bw) (And.intro ft (And.intro fl (show (L.take j).flatten.length + (L.getD j []).length ≤ 1099511627776 by omega)))))
          clear ow bw hr hv ft fb fl
          go_wp2_with (at_builtin; refine wpList_append_row rfl (.tmp 31) (.tmp 32) rfl w.heap.size _ _ _ rfl H4.out.1 v (L.getD j []) rfl H4.out.2.2.1 (by have := H4.out.2.2.2.2.2; omega) H4.out.2.1.size ?_; intro q5 w5 o5 g5; have H5 : Hid _ := And.intro o5 g5; clear o5 g5)
          go_roundw
          case rel =>
            refine ⟨j + 1, by omega, by go_num, ?_, ?_⟩
            · rw [H4.out.2.2.2.2.1, H4.out.2.2.2.1]; exact H5.out.1
            · exact H4.out.2.1.grown H5.out.2 H4.out.2.1.size (fun q hq => (H4.out.1.lt q hq).1)
          case measure => simp [intOf]; omega
        · obtain rfl : j = k := by omega
          have el : L.take j = L := List.take_of_length_le (by have := HH.out.1; omega)
          rw [el] at ow
          have H4 : Hid _ := And.intro ow bw
          clear ow bw
          go_wp2
          go_ret
          exact ⟨_, rfl, H4.out.1, H4.out.2⟩
end Go.Proofs.YtoalillggafnpaaGreatDoor

namespace Go.Proofs.YtoalillggafnpaaGreatDoor
open Go.RowKit
set_option linter.unusedVariables false

def retryK : List Int := [114, 101, 116, 114, 121]
/-- The tag of a retry packet. -/
def retV (o p : List Int) : List Int := (digV retryK (((o.length : Int) :: o) ++ p)).take 8
theorem retV_length (o p : List Int) : (retV o p).length = 8 := by simp [retV, digV_length]
theorem retryK_bytes : Bytes retryK := by intro x hx; simp [retryK] at hx; omega
theorem bytes_cons {x : Int} {xs : List Int} (h0 : 0 ≤ x) (h1 : x < 256) (h : Bytes xs) : Bytes (x :: xs) := by
  intro y hy
  rcases List.mem_cons.1 hy with rfl | hy
  · exact ⟨h0, h1⟩
  · exact h y hy
theorem bytes_app {xs ys : List Int} (h : Bytes xs) (h2 : Bytes ys) : Bytes (xs ++ ys) := by
  intro y hy
  rcases List.mem_append.1 hy with hy | hy
  · exact h y hy
  · exact h2 y hy
theorem cut_cap {w : World} {base g cap n : Nat} {xs : List Value} (h : w.ownsRow base 5 1 (.slice (some ⟨g, 0, none⟩) n cap) n xs) : n ≤ cap ∧ cap ≤ 9223372036854775807 := by
  rcases h.2 with ⟨e, _⟩ | ⟨g', cap', cur, e, _, _, h1, h2, _⟩
  · cases e
  · cases e; unfold maxLen at h2; omega
theorem key_row {W : World} {p : Nat} (h : W.heap[p]? = some (.cells #[.int .u8 114, .int .u8 101, .int .u8 116, .int .u8 114, .int .u8 121] 5 (5, 6))) : Row W .u8 (.slice (some ⟨p, 0, none⟩) 5 5) retryK := by
  refine Or.inr ⟨p, 0, 5, rfl, (Array.getElem?_eq_some_iff.1 h).1, ⟨Nat.le_refl _, by unfold maxLen; decide⟩, fun j hj => ?_⟩
  rw [Nat.zero_add, blkS_cell h]
  rcases (show j = 0 ∨ j = 1 ∨ j = 2 ∨ j = 3 ∨ j = 4 by simp [retryK] at hj; omega) with rfl | rfl | rfl | rfl | rfl <;> rfl
theorem kconst (w : World) (C : Array Value) (n c : Nat) : (convert 22 22 (.slice (some ⟨w.heap.size, 0, none⟩) n c)).run Tryz.prog (w.alloc (.cells C 5)) = .ok (.slice (some ⟨w.heap.size, 0, none⟩) n c) (w.alloc (.cells C 5 (C.size, C.size + 1))) :=
  Lib.run_convert_bytes_const w 22 5 C n c Tryz.underlying22 Tryz.underlying5
set_option maxRecDepth 20000 in
set_option maxHeartbeats 2000000 in
theorem rtagC (ao ap : Option Addr) (n m po pp : Nat) (o p : List Int) (w : World) (ro : Row w .u8 (.slice ao n po) o) (rp : Row w .u8 (.slice ap m pp) p) (eo : o.length = n) (ep : p.length = m) (hn : n ≤ 8) (hm : m ≤ 4096) (bo : Bytes o) (bp : Bytes p) :
    Calls Tryz.prog 35 #[.slice ao n po, .slice ap m pp] w fun e w' => ∃ r, e = .returned r ∧ Row w' .u8 r (retV o p) ∧ Below w.heap.size w w' := by
  have e1 := wrap8 n hn
  have kc := kconst
  have b0 := (Below.refl w.heap.size w).alloc (Nat.le_refl _) (.cells #[.int .u8 (n : Int)] 5)
  have o0 : (w.alloc (.cells #[.int .u8 (n : Int)] 5)).ownsRow w.heap.size 5 1 (.slice (some ⟨w.heap.size, 0, none⟩) 1 1) 1 (([(n : Int)]).map (Value.int .u8)) := World.ownsRow_lit _ #[.int .u8 (n : Int)] 1 (Nat.le_refl _) (by decide) rfl
  have HH : Hid _ := And.intro ro (And.intro rp (And.intro eo (And.intro ep (And.intro o0 (And.intro b0 (And.intro bp (show Bytes ((n : Int) :: o) from bytes_cons (by omega) (by omega) bo)))))))
  clear ro rp eo ep b0 o0 bo bp
  go_enter Tryz.func35, Tryz.ntmps35
  go_wp2_with (first
    | (at_builtin; refine wpList_append_row rfl (.tmp 9) (.tmp 10) rfl w.heap.size _ 1 [(n : Int)] rfl HH.out.2.2.2.2.1 _ o rfl (HH.out.1.below HH.out.2.2.2.2.2.1) (by rw [HH.out.2.2.1]; omega) HH.out.2.2.2.2.2.1.size ?_; intro q2 w2 o2 g2; have H2 : Hid _ := And.intro o2 (HH.out.2.2.2.2.2.1.grown g2 HH.out.2.2.2.2.2.1.size (fun q hq => (HH.out.2.2.2.2.1.lt q hq).1)); have P2 : Hid _ := And.intro (H2.out.1.alloc (.cells #[.int .u8 114, .int .u8 101, .int .u8 116, .int .u8 114, .int .u8 121] 5 (5, 6))) (H2.out.2.alloc H2.out.2.size (.cells #[.int .u8 114, .int .u8 101, .int .u8 116, .int .u8 114, .int .u8 121] 5 (5, 6))); clear o2 g2)
    | (at_builtin; refine wpList_append_row rfl (.tmp 14) (.tmp 15) rfl w.heap.size q2 _ _ rfl P2.out.1 _ p rfl (HH.out.2.1.below P2.out.2) (by rw [HH.out.2.2.1, HH.out.2.2.2.1]; omega) P2.out.2.size ?_; intro q3 w3 o3 g3; have K3 : Hid (w3.heap[w2.heap.size]? = some (.cells #[.int .u8 114, .int .u8 101, .int .u8 116, .int .u8 114, .int .u8 121] 5 (5, 6))) := (g3.block w2.heap.size (by simp) (fun e => by have := (H2.out.1.lt w2.heap.size e.symm).2; omega)).trans (MapKept.heap_alloc w2 _).1; have H3 : Hid _ := And.intro o3 (P2.out.2.grown g3 P2.out.2.size (fun q hq => (P2.out.1.lt q hq).1)); clear o3 g3))
  go_at_call 45
  have ed : ([(n : Int)] ++ o) ++ p = ((o.length : Int) :: o) ++ p := by rw [HH.out.2.2.1]; rfl
  have rq := row_of_owns H3.out.1
  rw [ed] at rq
  refine (specDigest _ _ retryK (((o.length : Int) :: o) ++ p) _ (key_row K3.out) rq retryK_bytes (by have := HH.out.2.2.2.2.2.2.2; rw [← HH.out.2.2.1] at this; exact bytes_app this HH.out.2.2.2.2.2.2.1) (by decide) (by have h1 := HH.out.2.2.1; have h2 := HH.out.2.2.2.1; simp; omega)).mono ?_
  rintro e w4 ⟨q4, rfl, o4, b4⟩
  obtain ⟨g4, p4, rfl, _, _⟩ := owns_shape o4 (by decide)
  obtain ⟨hc1, hc2⟩ := cut_cap o4
  have hc8 : (8 : Int) ≤ (p4 : Int) := by omega
  have H4 : Hid _ := And.intro (row_of_owns (owns_take (m := 8) o4 (by decide))) (H3.out.2.trans (b4.mono H3.out.2.size))
  clear o4 b4 ed rq
  go_wp2
  go_ret
  exact ⟨_, rfl, H4.out.1, H4.out.2⟩
end Go.Proofs.YtoalillggafnpaaGreatDoor

namespace Go.Proofs.YtoalillggafnpaaGreatDoor
open Go.RowKit
set_option linter.unusedVariables false

/-- A version that may be told. -/
def vok (v : Int) : Prop := 1 ≤ v ∧ v ≤ 4294967295
/-- Versions in four bytes each. -/
def versV (vs : List Int) : List Int := (vs.map (fun v => be v 4)).flatten
theorem versV_take (vs : List Int) (k : Nat) (h : k < vs.length) : versV (vs.take (k + 1)) = versV (vs.take k) ++ be (vs.getD k 0) 4 := by
  unfold versV
  rw [List.take_add_one, List.map_append, List.flatten_append]
  simp [List.getD, h]
theorem versV_length (vs : List Int) : (versV vs).length = 4 * vs.length := by
  induction vs with
  | nil => rfl
  | cons a t ih =>
    have : versV (a :: t) = be a 4 ++ versV t := rfl
    rw [this, List.length_append, ih, be_length, List.length_cons]; omega
theorem sVok (v : Int) (w : World) (h : vok v) : Calls Tryz.prog 33 #[.int .i64 v] w fun e w' => e = .returned (.bool true) ∧ w' = w := by
  obtain ⟨h1, h2⟩ := h
  go_enter Tryz.func33, Tryz.ntmps33
  go_wp2
  go_ret
  exact ⟨rfl, rfl⟩
theorem sVbad (v : Int) (w : World) (h : ¬ vok v) : Calls Tryz.prog 33 #[.int .i64 v] w fun e w' => e = .returned (.bool false) ∧ w' = w := by
  by_cases h1 : 1 ≤ v
  · have h2 : 4294967295 < v := by unfold vok at h; omega
    have hd : decide (v ≤ 4294967295) = false := decide_eq_false (by omega)
    clear h
    go_enter Tryz.func33, Tryz.ntmps33
    go_wp2
    go_ret
    exact ⟨rfl, rfl⟩
  · have h2 : v < 1 := by omega
    clear h h1
    go_enter Tryz.func33, Tryz.ntmps33
    go_wp2
    go_ret
    exact ⟨rfl, rfl⟩
/-- What VersionsPacket gives of versions that are not too few or many. -/
structure VersOut (d s vs y : List Int) (c : Int) : Prop where
  good : (∀ j, j < vs.length → vok (vs.getD j 0)) → c = 0 ∧ y = (128 :: idsV 0 d s) ++ versV vs
  bad : (∃ j, j < vs.length ∧ ¬ vok (vs.getD j 0)) → c = 1 ∧ y = []
set_option maxRecDepth 20000 in
set_option maxHeartbeats 1000000 in
theorem vers_bad (ad asv av : Option Addr) (n m k pd ps pv : Nat) (w : World) (h : 8 < n ∨ 8 < m ∨ k < 1 ∨ 8 < k) (hn : n ≤ 9223372036854775807) (hm : m ≤ 9223372036854775807) (hk : k ≤ 9223372036854775807) :
    Calls Tryz.prog 13 #[.slice ad n pd, .slice asv m ps, .slice av k pv] w fun e w' => ∃ r, e = .returned (.tuple #[r, .int .i64 1]) ∧ w'.ownsRow w.heap.size 5 1 r 0 (([] : List Int).map (Value.int .u8)) ∧ Below w.heap.size w w' := by
  by_cases h1 : n ≤ 8
  · by_cases h2 : m ≤ 8
    · by_cases h3 : k < 1
      · clear h
        go_enter Tryz.func13, Tryz.ntmps13
        go_wp2
        go_ret2
        exact ⟨_, rfl, World.ownsRow_lit _ #[] 0 (Nat.le_refl _) (by decide) rfl, (Below.refl _ _).alloc (Nat.le_refl _) _⟩
      · have h4 : 8 < k := by omega
        clear h
        go_enter Tryz.func13, Tryz.ntmps13
        go_wp2
        go_ret2
        exact ⟨_, rfl, World.ownsRow_lit _ #[] 0 (Nat.le_refl _) (by decide) rfl, (Below.refl _ _).alloc (Nat.le_refl _) _⟩
    · have h4 : 8 < m := by omega
      clear h
      go_enter Tryz.func13, Tryz.ntmps13
      go_wp2
      go_ret2
      exact ⟨_, rfl, World.ownsRow_lit _ #[] 0 (Nat.le_refl _) (by decide) rfl, (Below.refl _ _).alloc (Nat.le_refl _) _⟩
  · have h4 : 8 < n := by omega
    clear h
    go_enter Tryz.func13, Tryz.ntmps13
    go_wp2
    go_ret2
    exact ⟨_, rfl, World.ownsRow_lit _ #[] 0 (Nat.le_refl _) (by decide) rfl, (Below.refl _ _).alloc (Nat.le_refl _) _⟩
set_option maxRecDepth 20000 in
set_option maxHeartbeats 4000000 in
theorem vers_ok (ad asv : Option Addr) (b off n m k pd ps pv : Nat) (d s vs y : List Int) (c : Int) (w : World) (rd : Row w .u8 (.slice ad n pd) d) (rs : Row w .u8 (.slice asv m ps) s) (ed : d.length = n) (es : s.length = m) (ek : vs.length = k) (hn : n ≤ 8) (hm : m ≤ 8) (h1 : 1 ≤ k) (h8 : k ≤ 8)
    (hb : b < w.heap.size) (hc : ∀ j, j < k → w.cell? ⟨b, off + j, none⟩ = some (.int .i64 (vs.getD j 0))) (hy : VersOut d s vs y c) :
    Calls Tryz.prog 13 #[.slice ad n pd, .slice asv m ps, .slice (some ⟨b, off, none⟩) k pv] w fun e w' => ∃ r, e = .returned (.tuple #[r, .int .i64 c]) ∧ w'.ownsRow w.heap.size 5 1 r y.length (y.map (Value.int .u8)) ∧ Below w.heap.size w w' := by
  have b0 := (Below.refl w.heap.size w).alloc (Nat.le_refl _) (.cells #[.int .u8 128] 5)
  have HC : Hid _ := And.intro (idsC 0 ad asv n m pd ps d s _ (by decide) (by decide) (rd.below b0) (rs.below b0) ed es hn hm) b0
  have o0 : (w.alloc (.cells #[.int .u8 128] 5)).ownsRow w.heap.size 5 1 (.slice (some ⟨w.heap.size, 0, none⟩) 1 1) 1 ([128].map (Value.int .u8)) := World.ownsRow_lit _ #[.int .u8 128] 1 (Nat.le_refl _) (by decide) rfl
  have hil : (idsV 0 d s).length ≤ 22 := by rw [idsV_length]; omega
  have HH : Hid _ := And.intro hc (And.intro hy (And.intro ek (And.intro o0 hil)))
  clear rd rs ed es hc hy ek b0 o0 hil
  go_enter Tryz.func13, Tryz.ntmps13
  go_wp2_with fail
  go_at_call 34
  refine HC.out.1.mono ?_
  rintro e w1 ⟨r1, rfl, o1, b1⟩
  have H1 : Hid _ := And.intro (row_of_owns o1) (And.intro (owns_below HH.out.2.2.2.1 b1) (HC.out.2.trans (b1.mono HC.out.2.size)))
  clear o1 b1
  go_wp2_with (at_builtin; refine wpList_append_row rfl (.tmp 29) (.tmp 32) rfl w.heap.size _ 1 [128] rfl H1.out.2.1 _ (idsV 0 d s) rfl H1.out.1 (by have := HH.out.2.2.2.2; omega) H1.out.2.2.size ?_; intro q2 w2 o2 g2; have H2 : Hid _ := And.intro o2 (H1.out.2.2.grown g2 H1.out.2.2.size (fun q hq => (H1.out.2.1.lt q hq).1)); clear o2 g2)
  go_loopw [9, 8] (fun i q wr => ∃ t : Nat, t ≤ k ∧ i = .int .i64 (t : Int) ∧ wr.ownsRow w.heap.size 5 1 q (1 + (idsV 0 d s).length + 4 * t) (((128 :: idsV 0 d s) ++ versV (vs.take t)).map (Value.int .u8)) ∧ Below w.heap.size w wr ∧ ∀ j, j < t → vok (vs.getD j 0)) (fun i _ _ => k - (intOf i).toNat)
  case atStart => exact ⟨0, by omega, rfl, by simpa [versV] using H2.out.1, H2.out.2, fun j hj => by omega⟩
  case round =>
    obtain ⟨t, ht, rfl, ow, bw, hv⟩ := hrel
    by_cases hlt : t < k
    · have c0 : wr.cell? ⟨b, off + t, none⟩ = some (.int .i64 (vs.getD t 0)) := (bw.cell (p := ⟨b, off + t, none⟩) hb).trans (HH.out.1 t hlt)
      have H3 : Hid _ := And.intro ow (And.intro bw hv)
      clear ow bw hv
      obtain ⟨v, ev⟩ : ∃ v, v = vs.getD t 0 := ⟨_, rfl⟩
      rw [← ev] at c0
      have EV : Hid _ := ev
      clear ev
      by_cases hok : vok v
      · have hv1 := hok.1
        have hv2 := hok.2
        go_wp2_with (first
          | (go_at_call 33; refine (sVok v _ hok).mono ?_; rintro e w' ⟨rfl, hw⟩; subst w')
          | (go_at_call 42; refine (digits 4 v _ (by omega) (by omega) (by decide)).mono ?_; rintro e w4 ⟨r4, rfl, o4, b4⟩; have H4 : Hid _ := And.intro (row_of_owns o4) (And.intro (owns_below H3.out.1 b4) (H3.out.2.1.trans (b4.mono H3.out.2.1.size))); clear o4 b4)
          | (at_builtin; refine wpList_append_row rfl (.tmp 47) (.tmp 52) rfl w.heap.size _ _ _ rfl H4.out.2.1 _ (be v 4) rfl H4.out.1 (by rw [be_length]; have := HH.out.2.2.2.2; omega) H4.out.2.2.size ?_; intro q5 w5 o5 g5; have H5 : Hid _ := And.intro o5 (H4.out.2.2.grown g5 H4.out.2.2.size (fun q hq => (H4.out.2.1.lt q hq).1)); clear o5 g5))
        go_roundw
        case rel =>
          refine ⟨t + 1, by omega, by go_num, ?_, H5.out.2, fun j hj => ?_⟩
          · have := H5.out.1
            rw [be_length, List.append_assoc, EV.out, ← versV_take vs t (by have := HH.out.2.2.1; omega)] at this
            exact this
          · by_cases hjt : j = t
            · subst hjt; rw [← EV.out]; exact hok
            · exact H3.out.2.2 j (by omega)
        case measure => simp [intOf]; omega
      · have hB := HH.out.2.1.bad ⟨t, by have := HH.out.2.2.1; omega, by rw [← EV.out]; exact hok⟩
        obtain ⟨rfl, rfl⟩ := hB
        go_wp2_with (go_at_call 33; refine (sVbad v _ hok).mono ?_; rintro e w' ⟨rfl, hw⟩; subst w')
        go_ret2
        exact ⟨_, rfl, World.ownsRow_lit _ #[] 0 H3.out.2.1.size (by decide) rfl, H3.out.2.1.alloc H3.out.2.1.size _⟩
    · obtain rfl : t = k := by omega
      have hG := HH.out.2.1.good (fun j hj => hv j (by have := HH.out.2.2.1; omega))
      obtain ⟨rfl, rfl⟩ := hG
      have el : vs.take t = vs := List.take_of_length_le (by have := HH.out.2.2.1; omega)
      rw [el] at ow
      have H3 : Hid _ := And.intro ow bw
      clear ow bw hv
      go_wp2
      go_ret2
      refine ⟨_, rfl, ?_, H3.out.2⟩
      have := H3.out.1
      have hl : ((128 :: idsV 0 d s) ++ versV vs).length = 1 + (idsV 0 d s).length + 4 * t := by rw [List.length_append, versV_length, HH.out.2.2.1]; simp; omega
      rw [hl]
      exact this
end Go.Proofs.YtoalillggafnpaaGreatDoor

namespace Go.Proofs.YtoalillggafnpaaGreatDoor
open Go.RowKit
set_option linter.unusedVariables false

theorem owns_new0 (w : World) (o : Obj) : ((w.alloc o).alloc (.cells #[] 5)).ownsRow w.heap.size 5 1 (.slice (some ⟨w.heap.size + 1, 0, none⟩) 0 0) 0 (([] : List Int).map (Value.int .u8)) := by
  have es : (w.alloc o).heap.size = w.heap.size + 1 := by simp
  have b := (Below.refl w.heap.size w).alloc (Nat.le_refl _) o
  have h : ((w.alloc o).alloc (.cells #[] 5)).ownsRow w.heap.size 5 1 (.slice (some ⟨(w.alloc o).heap.size, 0, none⟩) 0 0) 0 (([] : List Int).map (Value.int .u8)) := World.ownsRow_lit _ #[] 0 b.size (by decide) rfl
  rw [es] at h
  exact h
/-- A header and an origin of which a retry packet is made. -/
def rok (h : H8) (o : List Int) : Prop := h.f = 3 ∧ vok h.v ∧ h.d.length ≤ 8 ∧ h.s.length ≤ 8 ∧ 1 ≤ h.t.length ∧ h.t.length ≤ 64 ∧ h.n = 0 ∧ h.l = 0 ∧ h.p = 0 ∧ o.length ≤ 8
/-- A retry packet ahead of its tag; the whole. -/
def retO (h : H8) : List Int := ([240] ++ idsV h.v h.d h.s) ++ h.t
def retP (h : H8) (o : List Int) : List Int := retO h ++ retV o (retO h)
theorem retO_length (h : H8) : (retO h).length = 7 + h.d.length + h.s.length + h.t.length := by simp [retO, idsV_length]; omega
theorem be_ok (v : Int) (n : Nat) : Bytes (be v n) := be_bytes v n
theorem idsV_bytes (v : Int) (d s : List Int) (bd : Bytes d) (bs : Bytes s) (hd : d.length ≤ 8) (hs : s.length ≤ 8) : Bytes (idsV v d s) :=
  bytes_app (bytes_app (bytes_app (bytes_app (be_bytes v 4) (bytes_cons (by omega) (by omega) (by intro x hx; simp at hx))) bd) (bytes_cons (by omega) (by omega) (by intro x hx; simp at hx))) bs
theorem retO_bytes (h : H8) (b : h.bytes) (hd : h.d.length ≤ 8) (hs : h.s.length ≤ 8) : Bytes (retO h) :=
  bytes_app (bytes_app (bytes_cons (by decide) (by decide) (by intro x hx; simp at hx)) (idsV_bytes _ _ _ b.1 b.2.1 hd hs)) b.2.2
set_option maxRecDepth 20000 in
set_option maxHeartbeats 1000000 in
theorem retS_bad_f (xf xv xn xl xp : Int) (a2 a3 a4 ao : Option Addr) (nd ns nt no p2 p3 p4 po : Nat) (w : World) (hnd : nd ≤ 9223372036854775807) (hns : ns ≤ 9223372036854775807) (hnt : nt ≤ 9223372036854775807) (hno : no ≤ 9223372036854775807)  (bf : xf ≠ 3) :
    Calls Tryz.prog 6 #[.agg #[.int .i64 xf, .int .i64 xv, .slice a2 nd p2, .slice a3 ns p3, .slice a4 nt p4, .int .i64 xn, .int .i64 xl, .int .i64 xp], .slice ao no po] w fun e w' => ∃ r, e = .returned (.tuple #[r, .int .i64 1]) ∧ w'.ownsRow w.heap.size 5 1 r 0 (([] : List Int).map (Value.int .u8)) ∧ Below w.heap.size w w' := by
  have hne : (xf != 3) = true := by simp; omega
  have HB : Hid (Below w.heap.size w (w.alloc (.cells #[.int .i64 xf, .int .i64 xv, .slice a2 nd p2, .slice a3 ns p3, .slice a4 nt p4, .int .i64 xn, .int .i64 xl, .int .i64 xp] 24))) := (Below.refl _ _).alloc (Nat.le_refl _) _
  go_enter Tryz.func6, Tryz.ntmps6
  go_wp2
  go_ret2
  exact ⟨_, rfl, owns_new0 w _, HB.out.alloc HB.out.size _⟩
set_option maxRecDepth 20000 in
set_option maxHeartbeats 1000000 in
theorem retS_bad_v (xf xv xn xl xp : Int) (a2 a3 a4 ao : Option Addr) (nd ns nt no p2 p3 p4 po : Nat) (w : World) (hnd : nd ≤ 9223372036854775807) (hns : ns ≤ 9223372036854775807) (hnt : nt ≤ 9223372036854775807) (hno : no ≤ 9223372036854775807) (gf : xf = 3) (bv : ¬ vok xv) :
    Calls Tryz.prog 6 #[.agg #[.int .i64 xf, .int .i64 xv, .slice a2 nd p2, .slice a3 ns p3, .slice a4 nt p4, .int .i64 xn, .int .i64 xl, .int .i64 xp], .slice ao no po] w fun e w' => ∃ r, e = .returned (.tuple #[r, .int .i64 1]) ∧ w'.ownsRow w.heap.size 5 1 r 0 (([] : List Int).map (Value.int .u8)) ∧ Below w.heap.size w w' := by
  subst gf
  have HB : Hid (Below w.heap.size w (w.alloc (.cells #[.int .i64 3, .int .i64 xv, .slice a2 nd p2, .slice a3 ns p3, .slice a4 nt p4, .int .i64 xn, .int .i64 xl, .int .i64 xp] 24))) := (Below.refl _ _).alloc (Nat.le_refl _) _
  go_enter Tryz.func6, Tryz.ntmps6
  go_wp2_with (go_at_call 33; refine (sVbad xv _ bv).mono ?_; rintro e w' ⟨rfl, hw⟩; subst w')
  go_ret2
  exact ⟨_, rfl, owns_new0 w _, HB.out.alloc HB.out.size _⟩
set_option maxRecDepth 20000 in
set_option maxHeartbeats 1000000 in
theorem retS_bad_d (xf xv xn xl xp : Int) (a2 a3 a4 ao : Option Addr) (nd ns nt no p2 p3 p4 po : Nat) (w : World) (hnd : nd ≤ 9223372036854775807) (hns : ns ≤ 9223372036854775807) (hnt : nt ≤ 9223372036854775807) (hno : no ≤ 9223372036854775807) (gf : xf = 3) (gv : vok xv) (bd : 8 < nd) :
    Calls Tryz.prog 6 #[.agg #[.int .i64 xf, .int .i64 xv, .slice a2 nd p2, .slice a3 ns p3, .slice a4 nt p4, .int .i64 xn, .int .i64 xl, .int .i64 xp], .slice ao no po] w fun e w' => ∃ r, e = .returned (.tuple #[r, .int .i64 1]) ∧ w'.ownsRow w.heap.size 5 1 r 0 (([] : List Int).map (Value.int .u8)) ∧ Below w.heap.size w w' := by
  subst gf
  have HB : Hid (Below w.heap.size w (w.alloc (.cells #[.int .i64 3, .int .i64 xv, .slice a2 nd p2, .slice a3 ns p3, .slice a4 nt p4, .int .i64 xn, .int .i64 xl, .int .i64 xp] 24))) := (Below.refl _ _).alloc (Nat.le_refl _) _
  go_enter Tryz.func6, Tryz.ntmps6
  go_wp2_with (go_at_call 33; refine (sVok xv _ gv).mono ?_; rintro e w' ⟨rfl, hw⟩; subst w')
  go_ret2
  exact ⟨_, rfl, owns_new0 w _, HB.out.alloc HB.out.size _⟩
set_option maxRecDepth 20000 in
set_option maxHeartbeats 1000000 in
theorem retS_bad_s (xf xv xn xl xp : Int) (a2 a3 a4 ao : Option Addr) (nd ns nt no p2 p3 p4 po : Nat) (w : World) (hnd : nd ≤ 9223372036854775807) (hns : ns ≤ 9223372036854775807) (hnt : nt ≤ 9223372036854775807) (hno : no ≤ 9223372036854775807) (gf : xf = 3) (gv : vok xv) (gd : nd ≤ 8) (bs : 8 < ns) :
    Calls Tryz.prog 6 #[.agg #[.int .i64 xf, .int .i64 xv, .slice a2 nd p2, .slice a3 ns p3, .slice a4 nt p4, .int .i64 xn, .int .i64 xl, .int .i64 xp], .slice ao no po] w fun e w' => ∃ r, e = .returned (.tuple #[r, .int .i64 1]) ∧ w'.ownsRow w.heap.size 5 1 r 0 (([] : List Int).map (Value.int .u8)) ∧ Below w.heap.size w w' := by
  subst gf
  have HB : Hid (Below w.heap.size w (w.alloc (.cells #[.int .i64 3, .int .i64 xv, .slice a2 nd p2, .slice a3 ns p3, .slice a4 nt p4, .int .i64 xn, .int .i64 xl, .int .i64 xp] 24))) := (Below.refl _ _).alloc (Nat.le_refl _) _
  go_enter Tryz.func6, Tryz.ntmps6
  go_wp2_with (go_at_call 33; refine (sVok xv _ gv).mono ?_; rintro e w' ⟨rfl, hw⟩; subst w')
  go_ret2
  exact ⟨_, rfl, owns_new0 w _, HB.out.alloc HB.out.size _⟩
set_option maxRecDepth 20000 in
set_option maxHeartbeats 1000000 in
theorem retS_bad_t1 (xf xv xn xl xp : Int) (a2 a3 a4 ao : Option Addr) (nd ns nt no p2 p3 p4 po : Nat) (w : World) (hnd : nd ≤ 9223372036854775807) (hns : ns ≤ 9223372036854775807) (hnt : nt ≤ 9223372036854775807) (hno : no ≤ 9223372036854775807) (gf : xf = 3) (gv : vok xv) (gd : nd ≤ 8) (gs : ns ≤ 8) (bt1 : nt < 1) :
    Calls Tryz.prog 6 #[.agg #[.int .i64 xf, .int .i64 xv, .slice a2 nd p2, .slice a3 ns p3, .slice a4 nt p4, .int .i64 xn, .int .i64 xl, .int .i64 xp], .slice ao no po] w fun e w' => ∃ r, e = .returned (.tuple #[r, .int .i64 1]) ∧ w'.ownsRow w.heap.size 5 1 r 0 (([] : List Int).map (Value.int .u8)) ∧ Below w.heap.size w w' := by
  subst gf
  have HB : Hid (Below w.heap.size w (w.alloc (.cells #[.int .i64 3, .int .i64 xv, .slice a2 nd p2, .slice a3 ns p3, .slice a4 nt p4, .int .i64 xn, .int .i64 xl, .int .i64 xp] 24))) := (Below.refl _ _).alloc (Nat.le_refl _) _
  go_enter Tryz.func6, Tryz.ntmps6
  go_wp2_with (go_at_call 33; refine (sVok xv _ gv).mono ?_; rintro e w' ⟨rfl, hw⟩; subst w')
  go_ret2
  exact ⟨_, rfl, owns_new0 w _, HB.out.alloc HB.out.size _⟩
set_option maxRecDepth 20000 in
set_option maxHeartbeats 1000000 in
theorem retS_bad_t2 (xf xv xn xl xp : Int) (a2 a3 a4 ao : Option Addr) (nd ns nt no p2 p3 p4 po : Nat) (w : World) (hnd : nd ≤ 9223372036854775807) (hns : ns ≤ 9223372036854775807) (hnt : nt ≤ 9223372036854775807) (hno : no ≤ 9223372036854775807) (gf : xf = 3) (gv : vok xv) (gd : nd ≤ 8) (gs : ns ≤ 8) (gt1 : 1 ≤ nt) (bt2 : 64 < nt) :
    Calls Tryz.prog 6 #[.agg #[.int .i64 xf, .int .i64 xv, .slice a2 nd p2, .slice a3 ns p3, .slice a4 nt p4, .int .i64 xn, .int .i64 xl, .int .i64 xp], .slice ao no po] w fun e w' => ∃ r, e = .returned (.tuple #[r, .int .i64 1]) ∧ w'.ownsRow w.heap.size 5 1 r 0 (([] : List Int).map (Value.int .u8)) ∧ Below w.heap.size w w' := by
  subst gf
  have HB : Hid (Below w.heap.size w (w.alloc (.cells #[.int .i64 3, .int .i64 xv, .slice a2 nd p2, .slice a3 ns p3, .slice a4 nt p4, .int .i64 xn, .int .i64 xl, .int .i64 xp] 24))) := (Below.refl _ _).alloc (Nat.le_refl _) _
  go_enter Tryz.func6, Tryz.ntmps6
  go_wp2_with (go_at_call 33; refine (sVok xv _ gv).mono ?_; rintro e w' ⟨rfl, hw⟩; subst w')
  go_ret2
  exact ⟨_, rfl, owns_new0 w _, HB.out.alloc HB.out.size _⟩
set_option maxRecDepth 20000 in
set_option maxHeartbeats 1000000 in
theorem retS_bad_n (xf xv xn xl xp : Int) (a2 a3 a4 ao : Option Addr) (nd ns nt no p2 p3 p4 po : Nat) (w : World) (hnd : nd ≤ 9223372036854775807) (hns : ns ≤ 9223372036854775807) (hnt : nt ≤ 9223372036854775807) (hno : no ≤ 9223372036854775807) (gf : xf = 3) (gv : vok xv) (gd : nd ≤ 8) (gs : ns ≤ 8) (gt1 : 1 ≤ nt) (gt2 : nt ≤ 64) (bn : xn ≠ 0) :
    Calls Tryz.prog 6 #[.agg #[.int .i64 xf, .int .i64 xv, .slice a2 nd p2, .slice a3 ns p3, .slice a4 nt p4, .int .i64 xn, .int .i64 xl, .int .i64 xp], .slice ao no po] w fun e w' => ∃ r, e = .returned (.tuple #[r, .int .i64 1]) ∧ w'.ownsRow w.heap.size 5 1 r 0 (([] : List Int).map (Value.int .u8)) ∧ Below w.heap.size w w' := by
  subst gf
  have hne : (xn != 0) = true := by simp; omega
  have HB : Hid (Below w.heap.size w (w.alloc (.cells #[.int .i64 3, .int .i64 xv, .slice a2 nd p2, .slice a3 ns p3, .slice a4 nt p4, .int .i64 xn, .int .i64 xl, .int .i64 xp] 24))) := (Below.refl _ _).alloc (Nat.le_refl _) _
  go_enter Tryz.func6, Tryz.ntmps6
  go_wp2_with (go_at_call 33; refine (sVok xv _ gv).mono ?_; rintro e w' ⟨rfl, hw⟩; subst w')
  go_ret2
  exact ⟨_, rfl, owns_new0 w _, HB.out.alloc HB.out.size _⟩
set_option maxRecDepth 20000 in
set_option maxHeartbeats 1000000 in
theorem retS_bad_l (xf xv xn xl xp : Int) (a2 a3 a4 ao : Option Addr) (nd ns nt no p2 p3 p4 po : Nat) (w : World) (hnd : nd ≤ 9223372036854775807) (hns : ns ≤ 9223372036854775807) (hnt : nt ≤ 9223372036854775807) (hno : no ≤ 9223372036854775807) (gf : xf = 3) (gv : vok xv) (gd : nd ≤ 8) (gs : ns ≤ 8) (gt1 : 1 ≤ nt) (gt2 : nt ≤ 64) (gn : xn = 0) (bl : xl ≠ 0) :
    Calls Tryz.prog 6 #[.agg #[.int .i64 xf, .int .i64 xv, .slice a2 nd p2, .slice a3 ns p3, .slice a4 nt p4, .int .i64 xn, .int .i64 xl, .int .i64 xp], .slice ao no po] w fun e w' => ∃ r, e = .returned (.tuple #[r, .int .i64 1]) ∧ w'.ownsRow w.heap.size 5 1 r 0 (([] : List Int).map (Value.int .u8)) ∧ Below w.heap.size w w' := by
  subst gf
  subst gn
  have hne : (xl != 0) = true := by simp; omega
  have HB : Hid (Below w.heap.size w (w.alloc (.cells #[.int .i64 3, .int .i64 xv, .slice a2 nd p2, .slice a3 ns p3, .slice a4 nt p4, .int .i64 0, .int .i64 xl, .int .i64 xp] 24))) := (Below.refl _ _).alloc (Nat.le_refl _) _
  go_enter Tryz.func6, Tryz.ntmps6
  go_wp2_with (go_at_call 33; refine (sVok xv _ gv).mono ?_; rintro e w' ⟨rfl, hw⟩; subst w')
  go_ret2
  exact ⟨_, rfl, owns_new0 w _, HB.out.alloc HB.out.size _⟩
set_option maxRecDepth 20000 in
set_option maxHeartbeats 1000000 in
theorem retS_bad_p (xf xv xn xl xp : Int) (a2 a3 a4 ao : Option Addr) (nd ns nt no p2 p3 p4 po : Nat) (w : World) (hnd : nd ≤ 9223372036854775807) (hns : ns ≤ 9223372036854775807) (hnt : nt ≤ 9223372036854775807) (hno : no ≤ 9223372036854775807) (gf : xf = 3) (gv : vok xv) (gd : nd ≤ 8) (gs : ns ≤ 8) (gt1 : 1 ≤ nt) (gt2 : nt ≤ 64) (gn : xn = 0) (gl : xl = 0) (bp : xp ≠ 0) :
    Calls Tryz.prog 6 #[.agg #[.int .i64 xf, .int .i64 xv, .slice a2 nd p2, .slice a3 ns p3, .slice a4 nt p4, .int .i64 xn, .int .i64 xl, .int .i64 xp], .slice ao no po] w fun e w' => ∃ r, e = .returned (.tuple #[r, .int .i64 1]) ∧ w'.ownsRow w.heap.size 5 1 r 0 (([] : List Int).map (Value.int .u8)) ∧ Below w.heap.size w w' := by
  subst gf
  subst gn
  subst gl
  have hne : (xp != 0) = true := by simp; omega
  have HB : Hid (Below w.heap.size w (w.alloc (.cells #[.int .i64 3, .int .i64 xv, .slice a2 nd p2, .slice a3 ns p3, .slice a4 nt p4, .int .i64 0, .int .i64 0, .int .i64 xp] 24))) := (Below.refl _ _).alloc (Nat.le_refl _) _
  go_enter Tryz.func6, Tryz.ntmps6
  go_wp2_with (go_at_call 33; refine (sVok xv _ gv).mono ?_; rintro e w' ⟨rfl, hw⟩; subst w')
  go_ret2
  exact ⟨_, rfl, owns_new0 w _, HB.out.alloc HB.out.size _⟩
set_option maxRecDepth 20000 in
set_option maxHeartbeats 1000000 in
theorem retS_bad_o (xf xv xn xl xp : Int) (a2 a3 a4 ao : Option Addr) (nd ns nt no p2 p3 p4 po : Nat) (w : World) (hnd : nd ≤ 9223372036854775807) (hns : ns ≤ 9223372036854775807) (hnt : nt ≤ 9223372036854775807) (hno : no ≤ 9223372036854775807) (gf : xf = 3) (gv : vok xv) (gd : nd ≤ 8) (gs : ns ≤ 8) (gt1 : 1 ≤ nt) (gt2 : nt ≤ 64) (gn : xn = 0) (gl : xl = 0) (gp : xp = 0) (bo : 8 < no) :
    Calls Tryz.prog 6 #[.agg #[.int .i64 xf, .int .i64 xv, .slice a2 nd p2, .slice a3 ns p3, .slice a4 nt p4, .int .i64 xn, .int .i64 xl, .int .i64 xp], .slice ao no po] w fun e w' => ∃ r, e = .returned (.tuple #[r, .int .i64 1]) ∧ w'.ownsRow w.heap.size 5 1 r 0 (([] : List Int).map (Value.int .u8)) ∧ Below w.heap.size w w' := by
  subst gf
  subst gn
  subst gl
  subst gp
  have HB : Hid (Below w.heap.size w (w.alloc (.cells #[.int .i64 3, .int .i64 xv, .slice a2 nd p2, .slice a3 ns p3, .slice a4 nt p4, .int .i64 0, .int .i64 0, .int .i64 0] 24))) := (Below.refl _ _).alloc (Nat.le_refl _) _
  go_enter Tryz.func6, Tryz.ntmps6
  go_wp2_with (go_at_call 33; refine (sVok xv _ gv).mono ?_; rintro e w' ⟨rfl, hw⟩; subst w')
  go_ret2
  exact ⟨_, rfl, owns_new0 w _, HB.out.alloc HB.out.size _⟩
theorem retS_bad (v : Value) (h : H8) (ao : Option Addr) (po : Nat) (o : List Int) (w : World) (hr : HRow w v h) (hs : h.small 9223372036854775807) (ho : o.length ≤ 9223372036854775807) (hb : ¬ rok h o) :
    Calls Tryz.prog 6 #[v, .slice ao o.length po] w fun e w' => ∃ r, e = .returned (.tuple #[r, .int .i64 1]) ∧ w'.ownsRow w.heap.size 5 1 r 0 (([] : List Int).map (Value.int .u8)) ∧ Below w.heap.size w w' := by
  obtain ⟨xf, xv, xd, xs, xt, xn, xl, xp⟩ := h
  obtain ⟨v2, v3, v4, rfl, r2, r3, r4⟩ := hr
  obtain ⟨a2, p2, rfl⟩ := r2.form
  obtain ⟨a3, p3, rfl⟩ := r3.form
  obtain ⟨a4, p4, rfl⟩ := r4.form
  obtain ⟨s0, s1, s2⟩ := hs
  unfold rok at hb
  dsimp only at *
  by_cases gf : xf = 3
  rotate_left
  · exact retS_bad_f xf xv xn xl xp a2 a3 a4 ao _ _ _ _ p2 p3 p4 po w s0 s1 s2 ho  gf
  by_cases gv : vok xv
  rotate_left
  · exact retS_bad_v xf xv xn xl xp a2 a3 a4 ao _ _ _ _ p2 p3 p4 po w s0 s1 s2 ho gf gv
  by_cases gd : xd.length ≤ 8
  rotate_left
  · exact retS_bad_d xf xv xn xl xp a2 a3 a4 ao _ _ _ _ p2 p3 p4 po w s0 s1 s2 ho gf gv (by omega)
  by_cases gs : xs.length ≤ 8
  rotate_left
  · exact retS_bad_s xf xv xn xl xp a2 a3 a4 ao _ _ _ _ p2 p3 p4 po w s0 s1 s2 ho gf gv gd (by omega)
  by_cases gt1 : 1 ≤ xt.length
  rotate_left
  · exact retS_bad_t1 xf xv xn xl xp a2 a3 a4 ao _ _ _ _ p2 p3 p4 po w s0 s1 s2 ho gf gv gd gs (by omega)
  by_cases gt2 : xt.length ≤ 64
  rotate_left
  · exact retS_bad_t2 xf xv xn xl xp a2 a3 a4 ao _ _ _ _ p2 p3 p4 po w s0 s1 s2 ho gf gv gd gs gt1 (by omega)
  by_cases gn : xn = 0
  rotate_left
  · exact retS_bad_n xf xv xn xl xp a2 a3 a4 ao _ _ _ _ p2 p3 p4 po w s0 s1 s2 ho gf gv gd gs gt1 gt2 gn
  by_cases gl : xl = 0
  rotate_left
  · exact retS_bad_l xf xv xn xl xp a2 a3 a4 ao _ _ _ _ p2 p3 p4 po w s0 s1 s2 ho gf gv gd gs gt1 gt2 gn gl
  by_cases gp : xp = 0
  rotate_left
  · exact retS_bad_p xf xv xn xl xp a2 a3 a4 ao _ _ _ _ p2 p3 p4 po w s0 s1 s2 ho gf gv gd gs gt1 gt2 gn gl gp
  by_cases go : o.length ≤ 8
  · exact absurd ⟨gf, gv, gd, gs, gt1, gt2, gn, gl, gp, go⟩ hb
  · exact retS_bad_o xf xv xn xl xp a2 a3 a4 ao _ _ _ _ p2 p3 p4 po w s0 s1 s2 ho gf gv gd gs gt1 gt2 gn gl gp (by omega)
end Go.Proofs.YtoalillggafnpaaGreatDoor

namespace Go.Proofs.YtoalillggafnpaaGreatDoor
open Go.RowKit
set_option linter.unusedVariables false

/-- Keys that are valid. -/
def kok (k : K4) : Prop := k.a.length = 16 ∧ k.b.length = 16 ∧ k.c.length = 8 ∧ k.d.length = 16
end Go.Proofs.YtoalillggafnpaaGreatDoor

namespace Go.Proofs.YtoalillggafnpaaGreatDoor
open Go.RowKit
set_option linter.unusedVariables false

/-- A text's bytes. -/
def lab (s : ByteArray) : List Int := s.data.toList.map fun b => (b.toNat : Int)
theorem lab_length (s : ByteArray) : (lab s).length = s.size := by unfold lab; rw [List.length_map, Array.length_toList]; rfl
theorem lab_bytes (s : ByteArray) : Bytes (lab s) := by
  intro x hx
  obtain ⟨b, _, rfl⟩ := List.mem_map.1 hx
  have := b.toNat_lt
  omega
/-- The first k blocks that are derived. -/
def blk (ss ls : List Int) : Nat → List Int
  | 0 => []
  | k + 1 => blk ss ls k ++ digV ss (ls ++ [(k : Int)])
theorem blk_length (ss ls : List Int) (k : Nat) : (blk ss ls k).length = 16 * k := by
  induction k with
  | zero => rfl
  | succ k ih => simp [blk, ih, digV_length]; omega
theorem blk_bytes (ss ls : List Int) (k : Nat) : Bytes (blk ss ls k) := by
  induction k with
  | zero => intro x hx; simp [blk] at hx
  | succ k ih => exact bytes_append ih (digV_bytes _ _)
theorem blk_take (ss ls : List Int) (n k m : Nat) (h : n ≤ 16 * k) : (blk ss ls (k + m)).take n = (blk ss ls k).take n := by
  induction m with
  | zero => rfl
  | succ m ih =>
    rw [← ih, ← Nat.add_assoc]
    show (blk ss ls (k + m) ++ _).take n = _
    rw [List.take_append_of_le_length (by rw [blk_length]; omega)]
def drvV (ss ls : List Int) (n : Nat) : List Int := (blk ss ls 4).take n
theorem drvV_length (ss ls : List Int) (n : Nat) (h : n ≤ 64) : (drvV ss ls n).length = n := by simp [drvV, blk_length]; omega
theorem drvV_bytes (ss ls : List Int) (n : Nat) : Bytes (drvV ss ls n) := fun x hx => blk_bytes ss ls 4 x (List.mem_of_mem_take hx)

theorem bytesRow_size (s : ByteArray) (C : Nat) (h : s.size ≤ C) : (bytesRow s C).size = C := by
  unfold bytesRow
  rw [Array.size_append, Array.size_map, Array.size_replicate]
  have : s.data.size = s.size := rfl
  omega
theorem lab_at (s : ByteArray) (C j : Nat) (hj : j < s.size) : (bytesRow s C)[j]? = some (.int .u8 ((lab s).getD j 0)) := by
  have hd : j < s.data.size := hj
  rw [bytesRow_at s C j hd]
  simp only [lab, List.getD, List.getElem?_map]
  rw [List.getElem?_eq_getElem (by simpa using hd)]
  simp

/-- 'append([]byte(label), x)': whatever room there is, the answer reads as the label's bytes and x. -/
theorem wpList_append_lab {ops : Array Oper} {rest : List Oper} {o : Oper} {a : Act} {Q : Exit → Act → World → Prop} (wr : World) (s : ByteArray) (C : Nat) (x : Int) (i0 : TypeInfo)
    (hgd : o.guard = none) (p q : Operand) (ho : o.op = .call { callee := .builtin .append, args := #[p, q], argTypes := #[22, 22] })
    (hi : Tryz.prog.info? 5 = some i0) (hz0 : i0.zero = some (.int .u8 0)) (hz1 : i0.size = 1) (hz2 : i0.bytes = 1)
    (hp : a.eval p = .slice (some ⟨wr.heap.size, 0, none⟩) s.size C) (hq : a.eval q = .slice (some ⟨wr.heap.size + 1, 0, none⟩) 1 1)
    (hs : s.size ≤ 4096) (hC : s.size ≤ C) (hC1 : C ≤ maxLen)
    (h : ∀ v' w', Row w' .u8 v' (lab s ++ [x]) → Below wr.heap.size wr w' → wpList Tryz.prog ops Q rest (a.put o.dst v') w') :
    wpList Tryz.prog ops Q (o :: rest) a ((wr.alloc (.cells (bytesRow s C) 5 ((bytesRow s C).size, (bytesRow s C).size + 1))).alloc (.cells #[.int .u8 x] 5)).drew := by
  obtain ⟨W, eW⟩ : ∃ W, W = ((wr.alloc (.cells (bytesRow s C) 5 ((bytesRow s C).size, (bytesRow s C).size + 1))).alloc (.cells #[.int .u8 x] 5)).drew := ⟨_, rfl⟩
  have hb0 : W.heap[wr.heap.size]? = some (.cells (bytesRow s C) 5 ((bytesRow s C).size, (bytesRow s C).size + 1)) := by rw [eW]; exact (two_newS wr _ _).1
  have hb1 : W.heap[wr.heap.size + 1]? = some (.cells #[.int .u8 x] 5 (0, 0)) := by rw [eW]; exact (two_newS wr _ _).2
  have hbel : Below wr.heap.size wr W := by
    have := ((Below.refl wr.heap.size wr).alloc (Nat.le_refl _) (.cells (bytesRow s C) 5 ((bytesRow s C).size, (bytesRow s C).size + 1))).alloc (by simp) (.cells #[.int .u8 x] 5)
    rw [eW]
    exact ⟨this.os, this.tape, this.output, this.size, this.block⟩
  rw [← eW]
  have hsz := bytesRow_size s C hC
  have c0 : ∀ j, j < s.size → W.cell? ⟨wr.heap.size, j, none⟩ = some (.int .u8 ((lab s).getD j 0)) := fun j hj => by rw [blkS_cell hb0]; exact lab_at s C j hj
  have cx : W.cell? ⟨wr.heap.size + 1, 0, none⟩ = some (.int .u8 x) := by rw [blkS_cell hb1]; rfl
  have hll : (lab s ++ [x]).length = s.size + 1 := by rw [List.length_append, lab_length]; rfl
  refine wpList_append_arg W hgd p q 22 ho 5 i0 (.int .u8 0) 1 1 Tryz.underlying22 hi hz0 hz1 hz2 rfl (by decide) wr.heap.size 0 s.size C ((lab s).map (Value.int .u8)) hp (by rw [List.length_map, lab_length]; omega) ?_ ⟨wr.heap.size + 1, 0, none⟩ 1 1 [.int .u8 x] hq rfl ?_ ?_ ?_ (by unfold maxLen; omega) (by omega) ?_ ?_
  · intro j u hj
    rw [List.getElem?_map] at hj
    have hlt : j < s.size := by
      rw [← lab_length s]
      cases hc : (lab s)[j]? with
      | none => rw [hc] at hj; simp at hj
      | some y => exact (List.getElem?_eq_some_iff.1 hc).1
    rw [Nat.zero_add, c0 j hlt]
    rw [List.getElem?_eq_getElem (by rw [lab_length]; exact hlt)] at hj
    simp only [Option.map_some, Option.some.injEq] at hj
    rw [← hj]
    simp [List.getD, lab_length, hlt]
  · intro j u hj
    match j, hj with
    | 0, hj => simp at hj; subst hj; rw [Go.WideShapes.add_plain]; exact cx
  · intro u hu
    simp at hu
    subst hu
    rfl
  · intro hroom j hj
    have hj0 : j = 0 := by simpa using hj
    subst hj0
    constructor
    · rw [blkS_cell hb0]
      rw [Array.getElem?_eq_getElem (by rw [hsz]; omega)]
      rfl
    · have : decide ((bytesRow s C).size ≤ 0 + s.size * 1 + 0) = false := by rw [hsz]; simp; omega
      simp only [World.frozen?, hb0, this, Bool.false_and]
  · intro hroom
    have e : W.setCells wr.heap.size (0 + s.size * 1) [.int .u8 x] = W.setCell ⟨wr.heap.size, s.size, none⟩ (.int .u8 x) := by
      rw [show 0 + s.size * 1 = s.size by omega]
      rfl
    rw [e]
    refine h _ _ ?_ (hbel.setCell (Nat.le_refl _) _)
    refine Or.inr ⟨wr.heap.size, 0, C, by rw [hll], ?_, by rw [hll]; exact ⟨hroom, hC1⟩, fun j hj => ?_⟩
    · have : wr.heap.size < W.heap.size := (Array.getElem?_eq_some_iff.1 hb0).1
      simpa [World.setCell] using this
    · rw [hll] at hj
      rw [Nat.zero_add, blkS_cell (blkS_setCell hb0 s.size (.int .u8 x))]
      rw [Array.getElem?_setIfInBounds]
      by_cases e : s.size = j
      · subst e
        rw [if_pos rfl, if_pos (by rw [hsz]; omega)]
        simp [List.getD, ← lab_length s]
      · rw [if_neg e, lab_at s C j (by omega)]
        have : j < (lab s).length := by rw [lab_length]; omega
        simp [List.getD, List.getElem?_append_left this]
  · intro hgr v' w' hown hg
    refine h v' w' ?_ ⟨hg.os.trans hbel.os, hg.tape.trans hbel.tape, hg.output.trans hbel.output, Nat.le_trans hbel.size hg.size, fun k hk => (hg.block k (Nat.lt_of_lt_of_le hk hbel.size) (by simp)).trans (hbel.block k hk)⟩
    have : w'.ownsRow W.heap.size 5 1 v' (s.size + 1) ((lab s ++ [x]).map (Value.int .u8)) := by rw [List.map_append]; exact hown
    exact row_of_owns this

/-- What Derive answers. -/
def derV (ss : List Int) (s : ByteArray) (n : Int) : List Int := if ss.length = 16 ∧ s.size ≤ 32 ∧ 1 ≤ n ∧ n ≤ 64 then drvV ss (lab s) n.toNat else []
theorem derV_bytes (ss : List Int) (s : ByteArray) (n : Int) : Bytes (derV ss s n) := by
  unfold derV
  split
  · exact drvV_bytes _ _ _
  · intro x hx; cases hx
theorem derV_length (ss : List Int) (s : ByteArray) (n : Int) : (derV ss s n).length ≤ 64 := by
  unfold derV
  split
  · rw [drvV_length _ _ _ (by omega)]; omega
  · simp
end Go.Proofs.YtoalillggafnpaaGreatDoor

namespace Go.Proofs.YtoalillggafnpaaGreatDoor
open Go.RowKit
set_option linter.unusedVariables false

theorem copyC (v : Value) (xs : List Int) (w : World) (h : Row w .u8 v xs) (h0 : 0 < xs.length) (h1 : xs.length ≤ 1099511627776) :
    Calls Tryz.prog 44 #[v] w fun e w' => ∃ r, e = .returned r ∧ w'.ownsRow w.heap.size 5 1 r xs.length (xs.map (Value.int .u8)) ∧ Below w.heap.size w w' := by
  obtain ⟨i0, hi, hz0, hz1, hz2⟩ := info_parts infoU8
  obtain ⟨b, off, cap, rfl, hb, hc⟩ := h.at h0
  have hcs : ∀ (j : Nat) (u : Value), (xs.map (Value.int .u8))[j]? = some u → (w.alloc (.cells #[] 5)).cell? ((⟨b, off, none⟩ : Addr).add j) = some u := by
    intro j u hj
    have hj' : j < xs.length := by
      have := (List.getElem?_eq_some_iff.1 hj).1
      rwa [List.length_map] at this
    rw [Go.WideShapes.add_plain, ((Below.refl w.heap.size w).alloc (Nat.le_refl _) (.cells #[] 5)).cell (p := ⟨b, off + j, none⟩) hb, hc j hj']
    rw [List.getElem?_map, List.getElem?_eq_getElem hj'] at hj
    simp only [Option.map_some, Option.some.injEq] at hj
    rw [← hj]
    simp [List.getD, hj']
  have hlit : (w.alloc (.cells #[] 5)).ownsRow w.heap.size 5 1 (.slice (some ⟨w.heap.size, 0, none⟩) 0 0) 0 [] := World.ownsRow_lit w #[] 0 (Nat.le_refl _) (by decide) rfl
  have hbs : w.heap.size ≤ (w.alloc (.cells #[] 5)).heap.size := by simp
  have HF : Hid _ := And.intro hcs (And.intro hlit hbs)
  obtain ⟨n, en⟩ : ∃ n, n = xs.length := ⟨_, rfl⟩
  have HL : Hid ((xs.map (Value.int .u8)).length = n * 1) := by rw [List.length_map, en]; exact (Nat.mul_one _).symm
  rw [← en] at h1 ⊢
  clear hcs hlit h hc h0 en
  go_enter Tryz.func44, Tryz.ntmps44
  go_wp2_with (at_builtin; refine wpList_append_own _ rfl _ _ 22 rfl w.heap.size 5 i0 (.int .u8 0) 1 1 Tryz.underlying22 hi hz0 hz1 hz2 rfl (by decide) (.slice (some ⟨w.heap.size, 0, none⟩) 0 0) 0 [] rfl HF.out.2.1 ⟨b, off, none⟩ n cap (xs.map (Value.int .u8)) rfl HL.out HF.out.1 (pc_one _ _) (by unfold maxLen; omega) (by omega) hbs ?_; intro v3 w3 o3 g3 _)
  have HG : Hid _ := And.intro o3 (((Below.refl w.heap.size w).alloc (Nat.le_refl _) _).grown g3 hbs (fun j hj => (HF.out.2.1.lt j hj).1))
  clear o3 g3
  go_wp2
  go_ret
  refine ⟨_, rfl, ?_, HG.out.2⟩
  have := HG.out.1
  rw [Nat.zero_add, List.nil_append] at this
  exact this

def lKey : ByteArray := ⟨#[107, 101, 121]⟩
def lIv : ByteArray := ⟨#[105, 118]⟩
def lMask : ByteArray := ⟨#[109, 97, 115, 107]⟩
def lNext : ByteArray := ⟨#[110, 101, 120, 116]⟩
def kZero : K4 := ⟨[], [], [], []⟩
/-- The keys of a secret. -/
def keysV (ss : List Int) : K4 := if ss.length = 16 then ⟨ss, derV ss lKey 16, derV ss lIv 8, derV ss lMask 16⟩ else kZero

theorem kzero_owns (w : World) (base : Nat) : KOwns w base (.agg #[.slice none 0 0, .slice none 0 0, .slice none 0 0, .slice none 0 0]) kZero := by
  have h : w.ownsRow base 5 1 (.slice none 0 0) 0 (([] : List Int).map (Value.int .u8)) := World.ownsRow_nil _ _ _ _
  have a : Apart (.slice none 0 0) (.slice none 0 0) := fun g e => by cases e
  exact ⟨_, _, _, _, rfl, h, h, h, h, a, a, a, a, a, a⟩
theorem owns_cell3 {wx : World} {base g n i : Nat} {u v : Value} {xs : List Value} (ho : wx.ownsRow base 5 1 v n xs) (hb : g < base) : (wx.setCell ⟨g, i, none⟩ u).ownsRow base 5 1 v n xs :=
  (Only.setCell (w := wx) ⟨g, i, none⟩ u).owns ho (fun k hk e => by have := (ho.lt k hk).1; have := Option.some.inj e; simp only at this; omega)

theorem keysV_bytes (ss : List Int) (h : Bytes ss) : (keysV ss).bytes := by
  have hn : Bytes ([] : List Int) := fun x hx => by cases hx
  unfold keysV
  split
  · exact ⟨h, derV_bytes _ _ _, derV_bytes _ _ _, derV_bytes _ _ _⟩
  · exact ⟨hn, hn, hn, hn⟩
theorem keysV_small (ss : List Int) : (keysV ss).small 64 := by
  unfold keysV
  split
  · rename_i h
    exact ⟨by show ss.length ≤ 64; omega, derV_length _ _ _, derV_length _ _ _, derV_length _ _ _⟩
  · exact ⟨Nat.zero_le _, Nat.zero_le _, Nat.zero_le _, Nat.zero_le _⟩
end Go.Proofs.YtoalillggafnpaaGreatDoor

namespace Go.Proofs.YtoalillggafnpaaGreatDoor
open Go.RowKit
set_option linter.unusedVariables false

theorem hm_cap {w : World} {base g cap n : Nat} {xs : List Value} (h : w.ownsRow base 5 1 (.slice (some ⟨g, 0, none⟩) n cap) n xs) : n ≤ cap ∧ cap ≤ 9223372036854775807 := by
  rcases h.2 with ⟨e, _⟩ | ⟨g', cap', cur, e, _, _, h1, h2, _⟩
  · cases e
  · cases e; unfold maxLen at h2; omega
theorem hm_take {w : World} {base g cap m n : Nat} {xs : List Int} (h : w.ownsRow base 5 1 (.slice (some ⟨g, 0, none⟩) n cap) n (xs.map (Value.int .u8))) (hm : m ≤ n) : Row w .u8 (.slice (some ⟨g, 0, none⟩) m cap) (xs.take m) := by
  have hl : xs.length = n := by simpa using h.1
  have hcap : n ≤ cap ∧ cap ≤ maxLen := by
    rcases h.2 with ⟨e, _⟩ | ⟨g', cap', cur, e, _, _, h1, h2, _⟩
    · cases e
    · cases e; exact ⟨h1, h2⟩
  have hlt : g < w.heap.size := (h.lt g rfl).2
  have hc : ∀ j, j < xs.length → w.cell? ⟨g, 0 + j, none⟩ = some (.int .u8 (xs.getD j 0)) := by
    intro j hj
    have := h.cellAt j (by omega)
    rw [Nat.zero_add, this]
    simp [List.getD, hj]
  have := row_cut (at' := 0) (n := m) (cap' := cap) (cap := cap) hlt hc (by omega) ⟨by omega, hcap.2⟩
  simpa using this

/-- The mask of a sample. -/
def headV (k : K4) (ss : List Int) : List Int := (digV k.d ss).take 5
theorem headV_length (k : K4) (ss : List Int) : (headV k ss).length = 5 := by simp [headV, digV_length]
end Go.Proofs.YtoalillggafnpaaGreatDoor

namespace Go.Proofs.YtoalillggafnpaaGreatDoor
open Go.RowKit
set_option linter.unusedVariables false

/-- A reset: junk with a short packet's first byte, then the token. -/
def rpV (tok junk : List Int) : List Int := junk.set 0 (64 + junk.getD 0 0 % 64) ++ tok
theorem rpV_length (tok junk : List Int) : (rpV tok junk).length = junk.length + tok.length := by simp [rpV]
theorem rp_byte (x : Int) (h0 : 0 ≤ x) (h1 : x < 256) : IntKind.u8.wrap (64 + IntKind.u8.wrap (x.tmod 64)) = 64 + x % 64 := by
  rw [IntKind.wrap_u8, IntKind.wrap_u8, Int.tmod_eq_emod_of_nonneg h0]; omega
end Go.Proofs.YtoalillggafnpaaGreatDoor
