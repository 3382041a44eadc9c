import Derived.Test.YtoalillggafnpaaGreatDoorKeys
import Derived.Test.YtoalillggafnpaaGreatDoorBook
import Derived.Test.YtoalillggafnpaaGreatDoorAppRow
import Derived.Test.YtoalillggafnpaaGreatDoorBlocks
import Derived.WalkLawsBesides
import Derived.Deep.RegionLaw
import Derived.Test.YtoalillggafnpaaGreatDoorVals
import Derived.Test.YtoalillggafnpaaGreatDoorChecked
import Derived.WalkKit
import Derived.ProofKit
import Derived.Test.YtoalillggafnpaaGreatDoorMem
import Derived.Deep.RegionWith
import Derived.Deep.LoopGhost
import Derived.Defers
import Derived.Recover
import Derived.LaidEql
import Derived.Stop.Asserts
import Derived.RowKitTokens
import Derived.Laws.Rows
namespace Go.Proofs.YtoalillggafnpaaGreatDoor
open Go.RowKit
set_option linter.unusedVariables false

/-- A header: five numbers, three lists of bytes. -/
structure H8 where
  f : Int
  v : Int
  d : List Int
  s : List Int
  t : List Int
  n : Int
  l : Int
  p : Int
def H8.small (h : H8) (n : Nat) : Prop := h.d.length ≤ n ∧ h.s.length ≤ n ∧ h.t.length ≤ n
def H8.bytes (h : H8) : Prop := Bytes h.d ∧ Bytes h.s ∧ Bytes h.t
/-- Its numbers are integers of 64 bits. -/
def H8.wf (h : H8) : Prop := (Lit.int .i64 h.f).wf = true ∧ (Lit.int .i64 h.v).wf = true ∧ (Lit.int .i64 h.n).wf = true ∧ (Lit.int .i64 h.l).wf = true ∧ (Lit.int .i64 h.p).wf = true
def H8.total (h : H8) : Int := (h.d.length : Int) + (h.s.length : Int) + (h.t.length : Int)
def H8.cells (h : H8) (v2 v3 v4 : Value) : Array Value := #[.int .i64 h.f, .int .i64 h.v, v2, v3, v4, .int .i64 h.n, .int .i64 h.l, .int .i64 h.p]
theorem h8small_mono {h : H8} {m n : Nat} (hs : h.small m) (hm : m ≤ n) : h.small n := ⟨Nat.le_trans hs.1 hm, Nat.le_trans hs.2.1 hm, Nat.le_trans hs.2.2 hm⟩
def HRow (w : World) (v : Value) (h : H8) : Prop :=
  ∃ v2 v3 v4, v = .agg #[.int .i64 h.f, .int .i64 h.v, v2, v3, v4, .int .i64 h.n, .int .i64 h.l, .int .i64 h.p] ∧ Row w .u8 v2 h.d ∧ Row w .u8 v3 h.s ∧ Row w .u8 v4 h.t
theorem HRow.below {w w' : World} {v : Value} {h : H8} (k : HRow w v h) (hb : Below w.heap.size w w') : HRow w' v h := by
  obtain ⟨v2, v3, v4, e, h0, h1, h2⟩ := k
  exact ⟨v2, v3, v4, e, h0.below hb, h1.below hb, h2.below hb⟩
/-- The call's own header: three rows of its own, no two of them in one block. -/
structure HOwn (w : World) (base : Nat) (v2 v3 v4 : Value) (h : H8) : Prop where
  o0 : w.ownsRow base 5 1 v2 h.d.length (h.d.map (Value.int .u8))
  o1 : w.ownsRow base 5 1 v3 h.s.length (h.s.map (Value.int .u8))
  o2 : w.ownsRow base 5 1 v4 h.t.length (h.t.map (Value.int .u8))
  a01 : Apart v2 v3
  a02 : Apart v2 v4
  a12 : Apart v3 v4
def HOwns (w : World) (base : Nat) (v : Value) (h : H8) : Prop := ∃ v2 v3 v4, v = .agg #[.int .i64 h.f, .int .i64 h.v, v2, v3, v4, .int .i64 h.n, .int .i64 h.l, .int .i64 h.p] ∧ HOwn w base v2 v3 v4 h
theorem HOwns.row {w : World} {base : Nat} {v : Value} {h : H8} (k : HOwns w base v h) : HRow w v h := by
  obtain ⟨v2, v3, v4, e, k⟩ := k
  exact ⟨v2, v3, v4, e, row_of_owns k.o0, row_of_owns k.o1, row_of_owns k.o2⟩
theorem HOwns.below {w w' : World} {base : Nat} {v : Value} {h : H8} (k : HOwns w base v h) (hb : Below w.heap.size w w') : HOwns w' base v h := by
  obtain ⟨v2, v3, v4, e, k⟩ := k
  exact ⟨v2, v3, v4, e, owns_below k.o0 hb, owns_below k.o1 hb, owns_below k.o2 hb, k.a01, k.a02, k.a12⟩
theorem HOwns.mono {w : World} {base base' : Nat} {v : Value} {h : H8} (k : HOwns w base v h) (hb : base' ≤ base) : HOwns w base' v h := by
  obtain ⟨v2, v3, v4, e, k⟩ := k
  exact ⟨v2, v3, v4, e, owns_mono k.o0 hb, owns_mono k.o1 hb, owns_mono k.o2 hb, k.a01, k.a02, k.a12⟩
/-- The blocks of a header. -/
def HBlk (v : Value) (g : Nat) : Prop := ∃ a0 a1 v2 v3 v4 a5 a6 a7, v = .agg #[a0, a1, v2, v3, v4, a5, a6, a7] ∧ (v2.ownBlock = some g ∨ v3.ownBlock = some g ∨ v4.ownBlock = some g)
theorem HOwns.blk {w : World} {base : Nat} {v : Value} {h : H8} (k : HOwns w base v h) (g : Nat) (hg : HBlk v g) : base ≤ g ∧ g < w.heap.size := by
  obtain ⟨v2, v3, v4, e, q⟩ := k
  obtain ⟨a0, a1, u2, u3, u4, a5, a6, a7, e', hb⟩ := hg
  rw [e] at e'
  cases e'
  rcases hb with hb | hb | hb
  · exact q.o0.lt g hb
  · exact q.o1.lt g hb
  · exact q.o2.lt g hb
theorem Chg.howns2 {S : Nat → Prop} {w w' : World} {base : Nat} {v : Value} {h : H8} (c : Chg S w w') (ho : HOwns w base v h) (hs : ∀ g, HBlk v g → ¬ S g) : HOwns w' base v h := by
  obtain ⟨v2, v3, v4, rfl, q⟩ := ho
  exact ⟨v2, v3, v4, rfl, c.owns q.o0 (fun g hg => hs g ⟨_, _, _, _, _, _, _, _, rfl, Or.inl hg⟩), c.owns q.o1 (fun g hg => hs g ⟨_, _, _, _, _, _, _, _, rfl, Or.inr (Or.inl hg)⟩), c.owns q.o2 (fun g hg => hs g ⟨_, _, _, _, _, _, _, _, rfl, Or.inr (Or.inr hg)⟩), q.a01, q.a02, q.a12⟩
/-- A header of one's own, its lists written out. -/
theorem HOwns.parts {w : World} {base : Nat} {v : Value} {h : H8} (k : HOwns w base v h) : ∃ (a2 a3 a4 : Option Addr) (p2 p3 p4 : Nat), v = .agg #[.int .i64 h.f, .int .i64 h.v, .slice a2 h.d.length p2, .slice a3 h.s.length p3, .slice a4 h.t.length p4, .int .i64 h.n, .int .i64 h.l, .int .i64 h.p] := by
  obtain ⟨v2, v3, v4, rfl, q⟩ := k
  obtain ⟨a2, p2, rfl⟩ := (row_of_owns q.o0).form
  obtain ⟨a3, p3, rfl⟩ := (row_of_owns q.o1).form
  obtain ⟨a4, p4, rfl⟩ := (row_of_owns q.o2).form
  exact ⟨a2, a3, a4, p2, p3, p4, rfl⟩
/-- The header with k, k + 1, .. in all the places of its lists. -/
def H8.marked (h : H8) (q : Int) : H8 :=
  ⟨h.f, h.v, marks q h.d.length, marks (q + (h.d.length : Int)) h.s.length, marks (q + (h.d.length : Int) + (h.s.length : Int)) h.t.length, h.n, h.l, h.p⟩
/-- The eight cells of a block of a book. -/
theorem Book.c8 {w : World} {l : List (Nat × Obj)} (h : Book w l) {b : Nat} {x0 x1 x2 x3 x4 x5 x6 x7 : Value} {t : TypeId} (hm : (b, Obj.cells #[x0, x1, x2, x3, x4, x5, x6, x7] t (0, 0)) ∈ l) :
    w.cell? ⟨b, 0, none⟩ = some x0 ∧ w.cell? ⟨b, 1, none⟩ = some x1 ∧ w.cell? ⟨b, 2, none⟩ = some x2 ∧ w.cell? ⟨b, 3, none⟩ = some x3 ∧ w.cell? ⟨b, 4, none⟩ = some x4 ∧ w.cell? ⟨b, 5, none⟩ = some x5 ∧ w.cell? ⟨b, 6, none⟩ = some x6 ∧ w.cell? ⟨b, 7, none⟩ = some x7 := by
  have hb := h.blk _ _ hm
  refine ⟨?_, ?_, ?_, ?_, ?_, ?_, ?_, ?_⟩ <;> simp [World.cell?, hb]
end Go.Proofs.YtoalillggafnpaaGreatDoor

namespace Go.Proofs.YtoalillggafnpaaGreatDoor
open Go.RowKit
set_option linter.unusedVariables false

/-- What a reader is left with: the panic's value for a code. -/
def leftV (c : Int) : Value := .iface 116 (.agg #[.iface 93 (.agg #[.int .i64 c])])
def leftP (c : Int) : PanicEntry := { v := leftV c, recovered := false }
theorem leaveC (r : Value) (c : Int) (w : World) : Calls Tryz.prog 76 #[r, .int .i64 c] w fun e w' => e = .panicked [leftP c] ∧ w' = w := by
  go_enter Tryz.func76, Tryz.ntmps76
  go_wp2
  exact ⟨rfl, rfl, rfl⟩
theorem leaveIf_t (r : Value) (c : Int) (w : World) : Calls Tryz.prog 55 #[r, .bool true, .int .i64 c] w fun e w' => e = .panicked [leftP c] ∧ w' = w := by
  go_enter Tryz.func55, Tryz.ntmps55
  go_wp2_with fail
  go_at_call 76
  refine (leaveC r c w).mono ?_
  rintro e w' ⟨rfl, rfl⟩
  go_wp2
  exact ⟨rfl, rfl, rfl⟩
theorem leaveIf_f (r : Value) (c : Int) (w : World) : Calls Tryz.prog 55 #[r, .bool false, .int .i64 c] w fun e w' => e = .returned (.tuple #[]) ∧ w' = w := by
  go_enter Tryz.func55, Tryz.ntmps55
  go_wp2
  go_end0
  exact ⟨rfl, rfl⟩
/-- The reader's block. -/
def rdB (w : World) (g : Nat) (vb : Value) (p : Int) : Prop := w.heap[g]? = some (.cells #[vb, .int .i64 p] 118 (0, 0))
theorem rdB.c0 {w : World} {g : Nat} {vb : Value} {p : Int} (h : rdB w g vb p) : w.cell? ⟨g, 0, none⟩ = some vb := (bk_cell h 0).trans rfl
theorem rdB.c1 {w : World} {g : Nat} {vb : Value} {p : Int} (h : rdB w g vb p) : w.cell? ⟨g, 1, none⟩ = some (.int .i64 p) := (bk_cell h 1).trans rfl
theorem rdB.fr {w : World} {g : Nat} {vb : Value} {p : Int} (h : rdB w g vb p) (o : Nat) : w.frozen? ⟨g, o, none⟩ = false := bk_free h o
theorem rdB.lt {w : World} {g : Nat} {vb : Value} {p : Int} (h : rdB w g vb p) : g < w.heap.size := (Array.getElem?_eq_some_iff.1 h).1
theorem rdB.set {w : World} {g : Nat} {vb : Value} {p : Int} (h : rdB w g vb p) (q : Int) : rdB (w.setCell ⟨g, 1, none⟩ (.int .i64 q)) g vb q := bk_set h 1 _
theorem rdB.below {w w' : World} {g : Nat} {vb : Value} {p : Int} (h : rdB w g vb p) (hb : Below w.heap.size w w') : rdB w' g vb p := (hb.block g h.lt).trans h
theorem restC (g : Nat) (ao : Option Addr) (n cap : Nat) (p : Int) (w : World) (h : rdB w g (.slice ao n cap) p) (hp : 0 ≤ p ∧ p ≤ n) (hn : n ≤ 9223372036854775807) :
    Calls Tryz.prog 79 #[.pointer (some ⟨g, 0, none⟩)] w fun e w' => e = .returned (.int .i64 ((n : Int) - p)) ∧ w' = w.drew := by
  have c0 := h.c0
  have c1 := h.c1
  have hw : IntKind.i64.wrap ((n : Int) - p) = (n : Int) - p := by rw [IntKind.wrap_i64]; omega
  go_enter Tryz.func79, Tryz.ntmps79
  go_wp2_with fail
  go_region
  go_wp2
  go_ret
  exact ⟨rfl, rfl⟩
theorem take_no (g : Nat) (ao : Option Addr) (n cap : Nat) (p k : Int) (w : World) (h : rdB w g (.slice ao n cap) p) (hp : 0 ≤ p ∧ p ≤ n) (hn : n ≤ 9223372036854775807) (hk : (n : Int) - p < k) :
    Calls Tryz.prog 78 #[.pointer (some ⟨g, 0, none⟩), .int .i64 k] w fun e w' => e = .panicked [leftP 2] ∧ w' = w.drew := by
  have hr := restC g ao n cap p w h hp hn
  go_enter Tryz.func78, Tryz.ntmps78
  go_wp2_with fail
  go_at_call 79
  refine hr.mono ?_
  rintro e w' ⟨rfl, rfl⟩
  replace hk : decide ((n : Int) - p < k) = true := decide_eq_true hk
  go_wp2_with fail
  go_at_call 55
  refine (leaveIf_t _ 2 _).mono ?_
  rintro e w' ⟨rfl, rfl⟩
  go_wp2
  exact ⟨rfl, rfl, rfl⟩
theorem rdB.drew {w : World} {g : Nat} {vb : Value} {p : Int} (h : rdB w g vb p) : rdB w.drew g vb p := h
/-- A slice that lies somewhere: block, place, cells. -/
structure Lies (w : World) (b off n cap : Nat) (xs : List Int) : Prop where
  len : xs.length = n
  lt : b < w.heap.size
  fits : n ≤ cap
  most : cap ≤ maxLen
  cell : ∀ j, j < n → w.cell? ⟨b, off + j, none⟩ = some (.int .u8 (xs.getD j 0))
theorem Lies.row {w : World} {b off n cap : Nat} {xs : List Int} (h : Lies w b off n cap xs) (p k : Nat) (hk : p + k ≤ n) : Row w .u8 (.slice (some ⟨b, off + p, none⟩) k (cap - p)) ((xs.drop p).take k) := by
  have hl := h.len
  subst hl
  exact row_cut (cap := cap) h.lt h.cell hk ⟨by have := h.fits; omega, by have := h.most; omega⟩
/-- The walk's own spelling of a piece: where nothing is behind it the address stays. -/
theorem Lies.rowI {w : World} {b off n cap : Nat} {xs : List Int} (h : Lies w b off n cap xs) (p k : Nat) (hk : p + k ≤ n) : Row w .u8 (.slice (if cap = p then some ⟨b, off, none⟩ else some ⟨b, off + p, none⟩) k (cap - p)) ((xs.drop p).take k) := by
  by_cases e : cap = p
  · have := h.fits
    obtain rfl : k = 0 := by omega
    exact Or.inl ⟨by simp, _, _, rfl⟩
  · rw [if_neg e]; exact h.row p k hk
theorem Lies.chg {w w' : World} {b off n cap : Nat} {xs : List Int} {S : Nat → Prop} (h : Lies w b off n cap xs) (hc : Chg S w w') (hs : ¬ S b) : Lies w' b off n cap xs :=
  ⟨h.len, Nat.lt_of_lt_of_le h.lt hc.size, h.fits, h.most, fun j hj => by rw [← h.cell j hj]; simp only [World.cell?]; rw [hc.block b h.lt hs]⟩
theorem Lies.below {w w' : World} {b off n cap : Nat} {xs : List Int} (h : Lies w b off n cap xs) (hb : Below w.heap.size w w') : Lies w' b off n cap xs :=
  ⟨h.len, Nat.lt_of_lt_of_le h.lt hb.size, h.fits, h.most, fun j hj => (hb.cell (p := ⟨b, off + j, none⟩) h.lt).trans (h.cell j hj)⟩
theorem grown_below {w w' : World} (h : w.grownBy w' none) : Below w.heap.size w w' := by
  obtain ⟨h1, h2, h3, h4, h5⟩ := h
  exact ⟨h1, h2, h3, h4, fun k hk => h5 k hk (by simp)⟩
set_option maxRecDepth 20000 in
set_option maxHeartbeats 2000000 in
theorem take_ok (g b off n cap p k : Nat) (xs : List Int) (w : World) (h : rdB w g (.slice (some ⟨b, off, none⟩) n cap) p) (hl : Lies w b off n cap xs) (hgb : b ≠ g) (hn : n ≤ 65536) (hk : p + k ≤ n) :
    Calls Tryz.prog 78 #[.pointer (some ⟨g, 0, none⟩), .int .i64 k] w fun e w' => ∃ v, e = .returned v ∧ w'.ownsRow w.heap.size 5 1 v k (((xs.drop p).take k).map (Value.int .u8)) ∧
      rdB w' g (.slice (some ⟨b, off, none⟩) n cap) ((p + k : Nat) : Int) ∧ Chg (· = g) w w' := by
  have hr := restC g (some ⟨b, off, none⟩) n cap p w h ⟨by omega, by omega⟩ (by omega)
  have c0 := h.c0
  have c1 := h.c1
  have f1 := h.fr 1
  have hw : IntKind.i64.wrap ((p : Int) + k) = p + k := by rw [IntKind.wrap_i64]; omega
  have hw2 : IntKind.i64.wrap ((p : Int) + k - k) = p := by rw [IntKind.wrap_i64]; omega
  have hw3 : IntKind.i64.wrap (p : Int) = p := by rw [IntKind.wrap_i64]; omega
  have hA : 0 ≤ (p : Int) + k ∧ (p : Int) + k ≤ cap := by have := hl.fits; omega
  have hM : max ((p : Int) + k) 0 = (p : Int) + k := by omega
  have hC : (p : Int) ≤ (p : Int) + k := by omega
  have hT : ((p : Int) + k).toNat = p + k := by omega
  have CH : Chg (· = g) w ((w.setCell ⟨g, 1, none⟩ (.int .i64 ((p : Int) + k))).drew.drew) := ⟨rfl, rfl, rfl, by simp [World.setCell], fun q hq hs => bk_other (w := w) hs 1 _⟩
  have hR : rdB ((w.setCell ⟨g, 1, none⟩ (.int .i64 ((p : Int) + k))).drew.drew) g (.slice (some ⟨b, off, none⟩) n cap) ((p : Int) + k) := h.set _
  have hlen : ((xs.drop p).take k).length = k := by rw [List.length_take, List.length_drop, hl.len]; omega
  have RW := (hl.chg CH hgb).rowI p k hk
  have hsz : 0 + ((xs.drop p).take k).length ≤ 140737488355328 := by rw [hlen]; omega
  have HH : Hid _ := And.intro CH (And.intro hR (And.intro RW (And.intro hlen hsz)))
  replace hk : decide ((n : Int) - p < k) = false := decide_eq_false (by omega)
  clear CH hR RW hlen hsz hl h
  generalize (xs.drop p).take k = ys at *
  go_enter Tryz.func78, Tryz.ntmps78
  go_wp2_with fail
  go_at_call 79
  refine hr.mono ?_
  rintro e w' ⟨rfl, rfl⟩
  go_wp2_with fail
  go_at_call 55
  refine (leaveIf_f _ 2 _).mono ?_
  rintro e w' ⟨rfl, rfl⟩
  go_wp2_with fail
  go_region_law (refine step_append_row rfl (.const _) (.tmp 33) rfl w.heap.size (.slice none 0 0) 0 [] rfl (World.ownsRow_nil _ _ _ _) (.slice (if cap = p then some ⟨b, off, none⟩ else some ⟨b, off + p, none⟩) k (cap - p)) ys rfl HH.out.2.2.1 HH.out.2.2.2.2 (by simp [World.setCell]) ?_; intro v1 w1 o1 g1)
  all_goals (rw [HH.out.2.2.2.1, Nat.zero_add, List.nil_append] at o1; have HF : Hid _ := And.intro o1 (And.intro (HH.out.2.1.below (grown_below g1)) (HH.out.1.trans (Chg.of_below (grown_below g1)))); clear o1 g1; go_wp2_with fail)
  all_goals first
    | (go_ret; exact ⟨v1, rfl, HF.out.1, HF.out.2.1, HF.out.2.2⟩)
    | (subst h; go_ret; exact ⟨v1, rfl, HF.out.1, HF.out.2.1, HF.out.2.2⟩)
end Go.Proofs.YtoalillggafnpaaGreatDoor

namespace Go.Proofs.YtoalillggafnpaaGreatDoor
open Go.RowKit
set_option linter.unusedVariables false

theorem and_mask (n k : Nat) (hn : n < 18446744073709551616) (hk : k ≤ 63) : bits .and .u64 (n : Int) ((2 ^ k - 1 : Nat) : Int) = ((n % 2 ^ k : Nat) : Int) := by
  have h2 : 2 ^ k - 1 < 18446744073709551616 := by
    have : 2 ^ k ≤ 2 ^ 63 := Nat.pow_le_pow_right (by decide) hk
    have e : (2 : Nat) ^ 63 = 9223372036854775808 := by decide
    omega
  have hm : n % 2 ^ k < 18446744073709551616 := Nat.lt_of_le_of_lt (Nat.mod_le _ _) hn
  have e1 : (BitVec.ofInt IntKind.u64.bits (n : Int)).toNat = n := by
    show (BitVec.ofInt 64 (n : Int)).toNat = n
    rw [BitVec.ofInt_natCast, BitVec.toNat_ofNat]
    exact Nat.mod_eq_of_lt hn
  have e2 : (BitVec.ofInt IntKind.u64.bits ((2 ^ k - 1 : Nat) : Int)).toNat = 2 ^ k - 1 := by
    show (BitVec.ofInt 64 ((2 ^ k - 1 : Nat) : Int)).toNat = 2 ^ k - 1
    rw [BitVec.ofInt_natCast, BitVec.toNat_ofNat]
    exact Nat.mod_eq_of_lt h2
  show IntKind.u64.wrap (((BitVec.ofInt IntKind.u64.bits (n : Int)) &&& (BitVec.ofInt IntKind.u64.bits ((2 ^ k - 1 : Nat) : Int))).toNat : Int) = _
  rw [BitVec.toNat_and, e1, e2, Nat.and_two_pow_sub_one_eq_mod]
  generalize n % 2 ^ k = m at hm
  simp [IntKind.wrap, IntKind.bits, IntKind.signed]
  omega
theorem vals_lt8 (ys : List Int) (hb : Bytes ys) (h : ys.length ≤ 8) : vals ys < 18446744073709551616 := by
  have h1 := vals_lt ys hb
  have hn : (256 : Nat) ^ ys.length ≤ 256 ^ 8 := Nat.pow_le_pow_right (by decide) h
  generalize ys.length = m at h1 hn
  have e1 : ((256 ^ m : Nat) : Int) = (256 : Int) ^ m := Int.natCast_pow 256 m
  have e : (256 : Nat) ^ 8 = 18446744073709551616 := by decide
  rw [e] at hn
  rw [← e1] at h1
  omega
theorem mask_of (s m : Int) (k : Nat) (h0 : 0 ≤ s) (h1 : s < 18446744073709551616) (hk : k ≤ 63) (hm : m = ((2 ^ k - 1 : Nat) : Int)) : bits .and .u64 s m = s % ((2 ^ k : Nat) : Int) := by
  obtain ⟨n, rfl⟩ := Int.eq_ofNat_of_zero_le h0
  subst hm
  rw [and_mask n k (by omega) hk]
  exact Int.natCast_emod n (2 ^ k)
theorem vals_1 (ys : List Int) (h : ys.length = 1) : vals ys = ys.getD 0 0 := by
  match ys, h with
  | [a], _ => simp [vals, List.getD]
theorem low_1 (x0 : Int) (l0 : 0 ≤ x0) (u0 : x0 < 256) (hf : x0 / 64 = 0) : (x0) % 64 = x0 % 64 := by omega
theorem vals_2 (ys : List Int) (h : ys.length = 2) : vals ys = ys.getD 0 0 * 256 + ys.getD 1 0 := by
  match ys, h with
  | [a, b], _ => simp [vals, List.getD]
theorem low_2 (x0 x1 : Int) (l0 : 0 ≤ x0) (u0 : x0 < 256) (l1 : 0 ≤ x1) (u1 : x1 < 256) (hf : x0 / 64 = 1) : (x0 * 256 + x1) % 16384 = x0 % 64 * 256 + x1 := by omega
theorem vals_4 (ys : List Int) (h : ys.length = 4) : vals ys = ((ys.getD 0 0 * 256 + ys.getD 1 0) * 256 + ys.getD 2 0) * 256 + ys.getD 3 0 := by
  match ys, h with
  | [a, b, c, d], _ => simp [vals, List.getD]
theorem low_4 (x0 x1 x2 x3 : Int) (l0 : 0 ≤ x0) (u0 : x0 < 256) (l1 : 0 ≤ x1) (u1 : x1 < 256) (l2 : 0 ≤ x2) (u2 : x2 < 256) (l3 : 0 ≤ x3) (u3 : x3 < 256) (hf : x0 / 64 = 2) : (((x0 * 256 + x1) * 256 + x2) * 256 + x3) % 1073741824 = ((x0 % 64 * 256 + x1) * 256 + x2) * 256 + x3 := by omega
theorem vals_8 (ys : List Int) (h : ys.length = 8) : vals ys = ((((((ys.getD 0 0 * 256 + ys.getD 1 0) * 256 + ys.getD 2 0) * 256 + ys.getD 3 0) * 256 + ys.getD 4 0) * 256 + ys.getD 5 0) * 256 + ys.getD 6 0) * 256 + ys.getD 7 0 := by
  match ys, h with
  | [a, b, c, d, e, f, g, h], _ => simp [vals, List.getD]
theorem low_8 (x0 x1 x2 x3 x4 x5 x6 x7 : Int) (l0 : 0 ≤ x0) (u0 : x0 < 256) (l1 : 0 ≤ x1) (u1 : x1 < 256) (l2 : 0 ≤ x2) (u2 : x2 < 256) (l3 : 0 ≤ x3) (u3 : x3 < 256) (l4 : 0 ≤ x4) (u4 : x4 < 256) (l5 : 0 ≤ x5) (u5 : x5 < 256) (l6 : 0 ≤ x6) (u6 : x6 < 256) (l7 : 0 ≤ x7) (u7 : x7 < 256) (hf : x0 / 64 = 3) : (((((((x0 * 256 + x1) * 256 + x2) * 256 + x3) * 256 + x4) * 256 + x5) * 256 + x6) * 256 + x7) % 4611686018427387904 = ((((((x0 % 64 * 256 + x1) * 256 + x2) * 256 + x3) * 256 + x4) * 256 + x5) * 256 + x6) * 256 + x7 := by omega
def gvn (x : Int) : Nat := if x / 64 = 0 then 1 else if x / 64 = 1 then 2 else if x / 64 = 2 then 4 else 8
def gvm (x : Int) : Int := if x / 64 = 0 then 64 else if x / 64 = 1 then 16384 else if x / 64 = 2 then 1073741824 else 4611686018427387904
/-- What stands at a place: the number, the place behind it, the code. -/
def gv (xs : List Int) (a : Int) : Int × Int × Int :=
  if 65536 < xs.length then (0, 0, 4) else if a < 0 ∨ (xs.length : Int) < a then (0, 0, 1) else if a = xs.length then (0, 0, 2)
  else if xs.length < a.toNat + gvn (xs.getD a.toNat 0) then (0, 0, 2)
  else (vals ((xs.drop a.toNat).take (gvn (xs.getD a.toNat 0))) % gvm (xs.getD a.toNat 0), a + gvn (xs.getD a.toNat 0), 0)
theorem sub_at (xs : List Int) (a m j : Nat) (h : j < m) : ((xs.drop a).take m).getD j 0 = xs.getD (a + j) 0 := by simp [List.getD, h]
theorem sub_length (xs : List Int) (a m : Nat) (h : a + m ≤ xs.length) : ((xs.drop a).take m).length = m := by rw [List.length_take, List.length_drop]; omega
theorem gv_form (x : Int) (h0 : 0 ≤ x) (h1 : x < 256) : (x / 64 = 0 ∧ gvn x = 1 ∧ gvm x = 64) ∨ (x / 64 = 1 ∧ gvn x = 2 ∧ gvm x = 16384) ∨ (x / 64 = 2 ∧ gvn x = 4 ∧ gvm x = 1073741824) ∨ (x / 64 = 3 ∧ gvn x = 8 ∧ gvm x = 4611686018427387904) := by
  have : x / 64 = 0 ∨ x / 64 = 1 ∨ x / 64 = 2 ∨ x / 64 = 3 := by omega
  rcases this with h | h | h | h
  · exact Or.inl ⟨h, by unfold gvn; rw [if_pos h], by unfold gvm; rw [if_pos h]⟩
  · exact Or.inr (Or.inl ⟨h, by unfold gvn; rw [if_neg (by omega), if_pos h], by unfold gvm; rw [if_neg (by omega), if_pos h]⟩)
  · exact Or.inr (Or.inr (Or.inl ⟨h, by unfold gvn; rw [if_neg (by omega), if_neg (by omega), if_pos h], by unfold gvm; rw [if_neg (by omega), if_neg (by omega), if_pos h]⟩))
  · exact Or.inr (Or.inr (Or.inr ⟨h, by unfold gvn; rw [if_neg (by omega), if_neg (by omega), if_neg (by omega)], by unfold gvm; rw [if_neg (by omega), if_neg (by omega), if_neg (by omega)]⟩))
theorem gvn_bd (x : Int) : 1 ≤ gvn x ∧ gvn x ≤ 8 := by
  unfold gvn; split <;> (try split) <;> (try split) <;> omega
theorem gv_short (xs : List Int) (i : Nat) (h : xs.length ≤ 65536) (hi : i < xs.length) (hs : xs.length < i + gvn (xs.getD i 0)) : gv xs i = (0, 0, 2) := by
  unfold gv
  rw [if_neg (by omega), if_neg (by omega), if_neg (by omega), Int.toNat_natCast, if_pos hs]
theorem gv_ok (xs : List Int) (i : Nat) (h : xs.length ≤ 65536) (hi : i < xs.length) (hs : i + gvn (xs.getD i 0) ≤ xs.length) :
    gv xs i = (vals ((xs.drop i).take (gvn (xs.getD i 0))) % gvm (xs.getD i 0), (i : Int) + gvn (xs.getD i 0), 0) := by
  unfold gv
  rw [if_neg (by omega), if_neg (by omega), if_neg (by omega), Int.toNat_natCast, if_neg (by omega)]
end Go.Proofs.YtoalillggafnpaaGreatDoor

namespace Go.Proofs.YtoalillggafnpaaGreatDoor
open Go.RowKit
set_option linter.unusedVariables false

/-- The table of the four lengths, as the world holds it. -/
structure Tab (w : World) : Prop where
  c0 : w.cell? ⟨2, 0, none⟩ = some (.int .i64 1)
  c1 : w.cell? ⟨2, 1, none⟩ = some (.int .i64 2)
  c2 : w.cell? ⟨2, 2, none⟩ = some (.int .i64 4)
  c3 : w.cell? ⟨2, 3, none⟩ = some (.int .i64 8)

def vlen (k : Int) : Int := if k = 0 then 1 else if k = 1 then 2 else if k = 2 then 4 else 8
def vmost (k : Int) : Int := if k = 0 then 63 else if k = 1 then 16383 else if k = 2 then 1073741823 else 4611686018427387903

theorem length_0 (w : World) (h : w.cell? ⟨2, 0, none⟩ = some (.int .i64 1)) :
    Calls Tryz.prog 99 #[.int .i64 0] w fun e w' => e = .returned (.int .i64 1) ∧ w' = w := by
  go_enter Tryz.func99, Tryz.ntmps99
  go_wp2
  go_ret
  exact ⟨rfl, rfl⟩
theorem length_1 (w : World) (h : w.cell? ⟨2, 1, none⟩ = some (.int .i64 2)) :
    Calls Tryz.prog 99 #[.int .i64 1] w fun e w' => e = .returned (.int .i64 2) ∧ w' = w := by
  go_enter Tryz.func99, Tryz.ntmps99
  go_wp2
  go_ret
  exact ⟨rfl, rfl⟩
theorem length_2 (w : World) (h : w.cell? ⟨2, 2, none⟩ = some (.int .i64 4)) :
    Calls Tryz.prog 99 #[.int .i64 2] w fun e w' => e = .returned (.int .i64 4) ∧ w' = w := by
  go_enter Tryz.func99, Tryz.ntmps99
  go_wp2
  go_ret
  exact ⟨rfl, rfl⟩
theorem length_3 (w : World) (h : w.cell? ⟨2, 3, none⟩ = some (.int .i64 8)) :
    Calls Tryz.prog 99 #[.int .i64 3] w fun e w' => e = .returned (.int .i64 8) ∧ w' = w := by
  go_enter Tryz.func99, Tryz.ntmps99
  go_wp2
  go_ret
  exact ⟨rfl, rfl⟩

theorem forms (k : Int) (h0 : 0 ≤ k) (h4 : k < 4) : k = 0 ∨ k = 1 ∨ k = 2 ∨ k = 3 := by omega

theorem length_any (k : Int) (h0 : 0 ≤ k) (h4 : k < 4) (w : World) (h : Tab w) :
    Calls Tryz.prog 99 #[.int .i64 k] w fun e w' => e = .returned (.int .i64 (vlen k)) ∧ w' = w := by
  rcases forms k h0 h4 with rfl | rfl | rfl | rfl
  · exact length_0 w h.c0
  · exact length_1 w h.c1
  · exact length_2 w h.c2
  · exact length_3 w h.c3

theorem greatest_any (k : Int) (h0 : 0 ≤ k) (h4 : k < 4) (w : World) (h : Tab w) :
    Calls Tryz.prog 100 #[.int .i64 k] w fun e w' => e = .returned (.int .i64 (vmost k)) ∧ w' = w := by
  have h1 := h.c0
  have h2 := h.c1
  have h3 := h.c2
  have h5 := h.c3
  clear h
  rcases forms k h0 h4 with rfl | rfl | rfl | rfl
  all_goals
    clear h0 h4
    go_enter Tryz.func100, Tryz.ntmps100
    go_wp2
    go_ret
    exact ⟨rfl, rfl⟩

theorem Tab.below {w w' : World} {B : Nat} (h : Tab w) (hb : Below B w w') (h0 : 2 < B) : Tab w' :=
  ⟨(hb.cell h0).trans h.c0, (hb.cell h0).trans h.c1, (hb.cell h0).trans h.c2, (hb.cell h0).trans h.c3⟩
theorem Tab.lt {w : World} (h : Tab w) : 2 < w.heap.size := by
  have := h.c0
  refine Nat.lt_of_not_le (fun hn => ?_)
  have e : w.heap[2]? = none := Array.getElem?_eq_none (by omega)
  simp [World.cell?, e] at this
end Go.Proofs.YtoalillggafnpaaGreatDoor

namespace Go.Proofs.YtoalillggafnpaaGreatDoor
open Go.RowKit
set_option linter.unusedVariables false

def vform (v : Int) : Int := if v ≤ 63 then 0 else if v ≤ 16383 then 1 else if v ≤ 1073741823 then 2 else 3

theorem vform_bd (v : Int) : 0 ≤ vform v ∧ vform v < 4 := by unfold vform; split <;> (try split) <;> (try split) <;> omega

theorem vmost_mono (a b : Int) (h : a ≤ b) (h0 : 0 ≤ a) (h1 : b < 4) : vmost a ≤ vmost b := by
  rcases forms a h0 (by omega) with rfl | rfl | rfl | rfl <;> rcases forms b (by omega) h1 with rfl | rfl | rfl | rfl <;> first | (unfold vmost; simp; done) | omega

theorem vform_eq (v k : Int) (h0 : 0 ≤ k) (h4 : k < 4) (hle : v ≤ vmost k) (hlo : ∀ j : Int, 0 ≤ j → j < k → vmost j < v) : vform v = k := by
  rcases forms k h0 h4 with rfl | rfl | rfl | rfl
  · simp only [vmost] at hle; simp at hle; unfold vform; rw [if_pos hle]
  · have := hlo 0 (by omega) (by omega)
    simp [vmost] at this hle; unfold vform; rw [if_neg (by omega), if_pos hle]
  · have := hlo 1 (by omega) (by omega)
    simp [vmost] at this hle; unfold vform; rw [if_neg (by omega), if_neg (by omega), if_pos hle]
  · have := hlo 2 (by omega) (by omega)
    simp [vmost] at this hle; unfold vform; rw [if_neg (by omega), if_neg (by omega), if_neg (by omega)]

/-- What it answers: the form, and whether there is one. -/
def sform (v : Int) : Int := if v ≤ 4611686018427387903 then vform v else 0
def sok (v : Int) : Bool := decide (v ≤ 4611686018427387903)

theorem sform_at (v k : Int) (h0 : 0 ≤ k) (h4 : k < 4) (hle : v ≤ vmost k) (hlo : ∀ j : Int, 0 ≤ j → j < k → vmost j < v) : sform v = k ∧ sok v = true := by
  have h3 : v ≤ 4611686018427387903 := by
    have := vmost_mono k 3 (by omega) h0 (by omega)
    have e : vmost 3 = 4611686018427387903 := rfl
    omega
  unfold sform sok
  rw [if_pos h3, vform_eq v k h0 h4 hle hlo]
  exact ⟨rfl, by simpa using h3⟩
theorem sform_none (v : Int) (hlo : ∀ j : Int, 0 ≤ j → j < 4 → vmost j < v) : sform v = 0 ∧ sok v = false := by
  have h3 := hlo 3 (by omega) (by omega)
  have e : vmost 3 = 4611686018427387903 := rfl
  unfold sform sok
  rw [if_neg (by omega)]
  exact ⟨rfl, by simp; omega⟩

/-- The length of the shortest form; 0 where there is none. -/
def vsize (v : Int) : Int := if v < 0 then 0 else if v ≤ 63 then 1 else if v ≤ 16383 then 2 else if v ≤ 1073741823 then 4 else if v ≤ 4611686018427387903 then 8 else 0

theorem vsize_form (v : Int) (h0 : 0 ≤ v) (h1 : v ≤ 4611686018427387903) : vlen (sform v) = vsize v ∧ sok v = true := by
  unfold sform sok vsize
  rw [if_pos h1, if_neg (by omega)]
  refine ⟨?_, by simpa using h1⟩
  unfold vform
  by_cases a : v ≤ 63
  · simp [a, vlen]
  · by_cases b : v ≤ 16383
    · simp [a, b, vlen]
    · by_cases c : v ≤ 1073741823
      · simp [a, b, c, vlen]
      · simp [a, b, c, h1, vlen]

end Go.Proofs.YtoalillggafnpaaGreatDoor

namespace Go.Proofs.YtoalillggafnpaaGreatDoor
open Go.RowKit
set_option linter.unusedVariables false

theorem place_long (ao : Option Addr) (n cap : Nat) (a : Int) (w : World) (h : 65536 < n) (hm : n ≤ 9223372036854775807) :
    Calls Tryz.prog 98 #[.slice ao n cap, .int .i64 a] w fun e w' => e = .returned (.int .i64 4) ∧ w' = w := by
  go_enter Tryz.func98, Tryz.ntmps98
  go_wp2
  go_ret
  exact ⟨rfl, rfl⟩
theorem place_bad (ao : Option Addr) (n cap : Nat) (a : Int) (w : World) (h : n ≤ 65536) (h1 : a < 0 ∨ (n : Int) < a) :
    Calls Tryz.prog 98 #[.slice ao n cap, .int .i64 a] w fun e w' => e = .returned (.int .i64 1) ∧ w' = w := by
  by_cases h2 : a < 0
  · clear h1
    go_enter Tryz.func98, Tryz.ntmps98
    go_wp2
    go_ret
    exact ⟨rfl, rfl⟩
  · have h3 : (n : Int) < a := by omega
    clear h1
    go_enter Tryz.func98, Tryz.ntmps98
    go_wp2
    go_ret
    exact ⟨rfl, rfl⟩
theorem place_ok (ao : Option Addr) (n cap : Nat) (a : Int) (w : World) (h : n ≤ 65536) (h1 : 0 ≤ a) (h2 : a ≤ (n : Int)) :
    Calls Tryz.prog 98 #[.slice ao n cap, .int .i64 a] w fun e w' => e = .returned (.int .i64 0) ∧ w' = w := by
  go_enter Tryz.func98, Tryz.ntmps98
  go_wp2
  go_ret
  exact ⟨rfl, rfl⟩
end Go.Proofs.YtoalillggafnpaaGreatDoor

namespace Go.Proofs.YtoalillggafnpaaGreatDoor
open Go.RowKit
set_option linter.unusedVariables false

theorem implGV_long (ao : Option Addr) (n cap : Nat) (a : Int) (w : World) (h : 65536 < n) (hm : n ≤ 9223372036854775807) :
    Calls Tryz.prog 94 #[.slice ao n cap, .int .i64 a] w fun e w' => e = .returned (.tuple #[.int .i64 0, .int .i64 0, .int .i64 4]) ∧ w' = w := by
  go_enter Tryz.func94, Tryz.ntmps94
  go_wp2_with (go_at_call 98; refine (place_long _ _ _ _ _ h hm).mono ?_; rintro e w' ⟨rfl, rfl⟩)
  go_ret3
  exact ⟨rfl, rfl⟩
theorem implGV_bad (ao : Option Addr) (n cap : Nat) (a : Int) (w : World) (h : n ≤ 65536) (hb : a < 0 ∨ (n : Int) < a) :
    Calls Tryz.prog 94 #[.slice ao n cap, .int .i64 a] w fun e w' => e = .returned (.tuple #[.int .i64 0, .int .i64 0, .int .i64 1]) ∧ w' = w := by
  by_cases h1 : a < 0
  · clear hb
    go_enter Tryz.func94, Tryz.ntmps94
    go_wp2_with (go_at_call 98; refine (place_bad _ _ _ _ _ h (Or.inl h1)).mono ?_; rintro e w' ⟨rfl, rfl⟩)
    go_ret3
    exact ⟨rfl, rfl⟩
  · have h2 : (n : Int) < a := by omega
    clear hb
    go_enter Tryz.func94, Tryz.ntmps94
    go_wp2_with (go_at_call 98; refine (place_bad _ _ _ _ _ h (Or.inr h2)).mono ?_; rintro e w' ⟨rfl, rfl⟩)
    go_ret3
    exact ⟨rfl, rfl⟩
theorem implGV_end (ao : Option Addr) (n cap : Nat) (w : World) (h : n ≤ 65536) :
    Calls Tryz.prog 94 #[.slice ao n cap, .int .i64 (n : Int)] w fun e w' => e = .returned (.tuple #[.int .i64 0, .int .i64 0, .int .i64 2]) ∧ w' = w := by
  go_enter Tryz.func94, Tryz.ntmps94
  go_wp2_with (go_at_call 98; refine (place_ok _ _ _ _ _ h (by omega) (by omega)).mono ?_; rintro e w' ⟨rfl, rfl⟩)
  go_ret3
  exact ⟨rfl, rfl⟩
set_option maxHeartbeats 1000000 in
theorem implGV_1 (b off n cap a : Nat) (x0 s : Int) (w : World) (ht : Tab w) (h : n ≤ 65536) (h1 : a + 1 ≤ n) (hcap : n ≤ cap ∧ cap ≤ maxLen) (c0 : w.cell? ⟨b, off + a, none⟩ = some (.int .u8 x0)) (l0 : 0 ≤ x0) (u0 : x0 < 256) (hf : x0 / 64 = 0) (s0 : 0 ≤ s) (s1 : s < 18446744073709551616)
    (hv : ∀ cap' : Nat, Calls Tryz.prog 77 #[.slice (some ⟨b, off + a, none⟩) 1 cap'] w fun e w' => e = .returned (.int .u64 s) ∧ w' = w) :
    Calls Tryz.prog 94 #[.slice (some ⟨b, off, none⟩) n cap, .int .i64 (a : Int)] w fun e w' => e = .returned (.tuple #[.int .i64 (s % 64), .int .i64 ((a : Int) + 1), .int .i64 0]) ∧ w' = w := by
  have hne : ((a : Int) == (n : Int)) = false := by rw [beq_eq_false_iff_ne]; omega
  have hc1 := hcap.1
  have hc2 : cap ≤ 9223372036854775807 := by have := hcap.2; unfold maxLen at this; omega
  have d := length_0 w ht.c0
  have g : Calls Tryz.prog 100 #[.int .i64 0] w fun e w' => e = .returned (.int .i64 63) ∧ w' = w := greatest_any 0 (by decide) (by decide) w ht
  have e1 : bits .and .u64 s 63 = s % 64 := mask_of s 63 6 s0 s1 (by decide) (by decide)
  clear hcap ht s1
  go_enter Tryz.func94, Tryz.ntmps94
  go_wp2_with (first
    | (go_at_call 98; refine (place_ok _ _ _ _ _ h (by omega) (by omega)).mono ?_; rintro e w' ⟨rfl, rfl⟩)
    | (go_at_call 99; refine d.mono ?_; rintro e w' ⟨rfl, rfl⟩)
    | (go_at_call 100; refine g.mono ?_; rintro e w' ⟨rfl, rfl⟩)
    | (go_at_call 77; refine (hv _).mono ?_; rintro e w' ⟨rfl, rfl⟩))
  go_ret3
  exact ⟨rfl, rfl⟩
set_option maxHeartbeats 1000000 in
theorem implGV_2 (b off n cap a : Nat) (x0 s : Int) (w : World) (ht : Tab w) (h : n ≤ 65536) (h1 : a + 2 ≤ n) (hcap : n ≤ cap ∧ cap ≤ maxLen) (c0 : w.cell? ⟨b, off + a, none⟩ = some (.int .u8 x0)) (l0 : 0 ≤ x0) (u0 : x0 < 256) (hf : x0 / 64 = 1) (s0 : 0 ≤ s) (s1 : s < 18446744073709551616)
    (hv : ∀ cap' : Nat, Calls Tryz.prog 77 #[.slice (some ⟨b, off + a, none⟩) 2 cap'] w fun e w' => e = .returned (.int .u64 s) ∧ w' = w) :
    Calls Tryz.prog 94 #[.slice (some ⟨b, off, none⟩) n cap, .int .i64 (a : Int)] w fun e w' => e = .returned (.tuple #[.int .i64 (s % 16384), .int .i64 ((a : Int) + 2), .int .i64 0]) ∧ w' = w := by
  have hne : ((a : Int) == (n : Int)) = false := by rw [beq_eq_false_iff_ne]; omega
  have hc1 := hcap.1
  have hc2 : cap ≤ 9223372036854775807 := by have := hcap.2; unfold maxLen at this; omega
  have d := length_1 w ht.c1
  have g : Calls Tryz.prog 100 #[.int .i64 1] w fun e w' => e = .returned (.int .i64 16383) ∧ w' = w := greatest_any 1 (by decide) (by decide) w ht
  have e1 : bits .and .u64 s 16383 = s % 16384 := mask_of s 16383 14 s0 s1 (by decide) (by decide)
  clear hcap ht s1
  go_enter Tryz.func94, Tryz.ntmps94
  go_wp2_with (first
    | (go_at_call 98; refine (place_ok _ _ _ _ _ h (by omega) (by omega)).mono ?_; rintro e w' ⟨rfl, rfl⟩)
    | (go_at_call 99; refine d.mono ?_; rintro e w' ⟨rfl, rfl⟩)
    | (go_at_call 100; refine g.mono ?_; rintro e w' ⟨rfl, rfl⟩)
    | (go_at_call 77; refine (hv _).mono ?_; rintro e w' ⟨rfl, rfl⟩))
  go_ret3
  exact ⟨rfl, rfl⟩
theorem implGV_short_2 (b off n cap a : Nat) (x0 : Int) (w : World) (ht : Tab w) (h : n ≤ 65536) (h0 : a < n) (h1 : n < a + 2) (c0 : w.cell? ⟨b, off + a, none⟩ = some (.int .u8 x0)) (l0 : 0 ≤ x0) (u0 : x0 < 256) (hf : x0 / 64 = 1) :
    Calls Tryz.prog 94 #[.slice (some ⟨b, off, none⟩) n cap, .int .i64 (a : Int)] w fun e w' => e = .returned (.tuple #[.int .i64 0, .int .i64 0, .int .i64 2]) ∧ w' = w := by
  have hne : ((a : Int) == (n : Int)) = false := by rw [beq_eq_false_iff_ne]; omega
  have d := length_1 w ht.c1
  clear ht
  go_enter Tryz.func94, Tryz.ntmps94
  go_wp2_with (first
    | (go_at_call 98; refine (place_ok _ _ _ _ _ h (by omega) (by omega)).mono ?_; rintro e w' ⟨rfl, rfl⟩)
    | (go_at_call 99; refine d.mono ?_; rintro e w' ⟨rfl, rfl⟩))
  go_ret3
  exact ⟨rfl, rfl⟩
set_option maxHeartbeats 1000000 in
theorem implGV_4 (b off n cap a : Nat) (x0 s : Int) (w : World) (ht : Tab w) (h : n ≤ 65536) (h1 : a + 4 ≤ n) (hcap : n ≤ cap ∧ cap ≤ maxLen) (c0 : w.cell? ⟨b, off + a, none⟩ = some (.int .u8 x0)) (l0 : 0 ≤ x0) (u0 : x0 < 256) (hf : x0 / 64 = 2) (s0 : 0 ≤ s) (s1 : s < 18446744073709551616)
    (hv : ∀ cap' : Nat, Calls Tryz.prog 77 #[.slice (some ⟨b, off + a, none⟩) 4 cap'] w fun e w' => e = .returned (.int .u64 s) ∧ w' = w) :
    Calls Tryz.prog 94 #[.slice (some ⟨b, off, none⟩) n cap, .int .i64 (a : Int)] w fun e w' => e = .returned (.tuple #[.int .i64 (s % 1073741824), .int .i64 ((a : Int) + 4), .int .i64 0]) ∧ w' = w := by
  have hne : ((a : Int) == (n : Int)) = false := by rw [beq_eq_false_iff_ne]; omega
  have hc1 := hcap.1
  have hc2 : cap ≤ 9223372036854775807 := by have := hcap.2; unfold maxLen at this; omega
  have d := length_2 w ht.c2
  have g : Calls Tryz.prog 100 #[.int .i64 2] w fun e w' => e = .returned (.int .i64 1073741823) ∧ w' = w := greatest_any 2 (by decide) (by decide) w ht
  have e1 : bits .and .u64 s 1073741823 = s % 1073741824 := mask_of s 1073741823 30 s0 s1 (by decide) (by decide)
  clear hcap ht s1
  go_enter Tryz.func94, Tryz.ntmps94
  go_wp2_with (first
    | (go_at_call 98; refine (place_ok _ _ _ _ _ h (by omega) (by omega)).mono ?_; rintro e w' ⟨rfl, rfl⟩)
    | (go_at_call 99; refine d.mono ?_; rintro e w' ⟨rfl, rfl⟩)
    | (go_at_call 100; refine g.mono ?_; rintro e w' ⟨rfl, rfl⟩)
    | (go_at_call 77; refine (hv _).mono ?_; rintro e w' ⟨rfl, rfl⟩))
  go_ret3
  exact ⟨rfl, rfl⟩
theorem implGV_short_4 (b off n cap a : Nat) (x0 : Int) (w : World) (ht : Tab w) (h : n ≤ 65536) (h0 : a < n) (h1 : n < a + 4) (c0 : w.cell? ⟨b, off + a, none⟩ = some (.int .u8 x0)) (l0 : 0 ≤ x0) (u0 : x0 < 256) (hf : x0 / 64 = 2) :
    Calls Tryz.prog 94 #[.slice (some ⟨b, off, none⟩) n cap, .int .i64 (a : Int)] w fun e w' => e = .returned (.tuple #[.int .i64 0, .int .i64 0, .int .i64 2]) ∧ w' = w := by
  have hne : ((a : Int) == (n : Int)) = false := by rw [beq_eq_false_iff_ne]; omega
  have d := length_2 w ht.c2
  clear ht
  go_enter Tryz.func94, Tryz.ntmps94
  go_wp2_with (first
    | (go_at_call 98; refine (place_ok _ _ _ _ _ h (by omega) (by omega)).mono ?_; rintro e w' ⟨rfl, rfl⟩)
    | (go_at_call 99; refine d.mono ?_; rintro e w' ⟨rfl, rfl⟩))
  go_ret3
  exact ⟨rfl, rfl⟩
set_option maxHeartbeats 1000000 in
theorem implGV_8 (b off n cap a : Nat) (x0 s : Int) (w : World) (ht : Tab w) (h : n ≤ 65536) (h1 : a + 8 ≤ n) (hcap : n ≤ cap ∧ cap ≤ maxLen) (c0 : w.cell? ⟨b, off + a, none⟩ = some (.int .u8 x0)) (l0 : 0 ≤ x0) (u0 : x0 < 256) (hf : x0 / 64 = 3) (s0 : 0 ≤ s) (s1 : s < 18446744073709551616)
    (hv : ∀ cap' : Nat, Calls Tryz.prog 77 #[.slice (some ⟨b, off + a, none⟩) 8 cap'] w fun e w' => e = .returned (.int .u64 s) ∧ w' = w) :
    Calls Tryz.prog 94 #[.slice (some ⟨b, off, none⟩) n cap, .int .i64 (a : Int)] w fun e w' => e = .returned (.tuple #[.int .i64 (s % 4611686018427387904), .int .i64 ((a : Int) + 8), .int .i64 0]) ∧ w' = w := by
  have hne : ((a : Int) == (n : Int)) = false := by rw [beq_eq_false_iff_ne]; omega
  have hc1 := hcap.1
  have hc2 : cap ≤ 9223372036854775807 := by have := hcap.2; unfold maxLen at this; omega
  have d := length_3 w ht.c3
  have g : Calls Tryz.prog 100 #[.int .i64 3] w fun e w' => e = .returned (.int .i64 4611686018427387903) ∧ w' = w := greatest_any 3 (by decide) (by decide) w ht
  have e1 : bits .and .u64 s 4611686018427387903 = s % 4611686018427387904 := mask_of s 4611686018427387903 62 s0 s1 (by decide) (by decide)
  clear hcap ht s1
  go_enter Tryz.func94, Tryz.ntmps94
  go_wp2_with (first
    | (go_at_call 98; refine (place_ok _ _ _ _ _ h (by omega) (by omega)).mono ?_; rintro e w' ⟨rfl, rfl⟩)
    | (go_at_call 99; refine d.mono ?_; rintro e w' ⟨rfl, rfl⟩)
    | (go_at_call 100; refine g.mono ?_; rintro e w' ⟨rfl, rfl⟩)
    | (go_at_call 77; refine (hv _).mono ?_; rintro e w' ⟨rfl, rfl⟩))
  go_ret3
  exact ⟨rfl, rfl⟩
theorem implGV_short_8 (b off n cap a : Nat) (x0 : Int) (w : World) (ht : Tab w) (h : n ≤ 65536) (h0 : a < n) (h1 : n < a + 8) (c0 : w.cell? ⟨b, off + a, none⟩ = some (.int .u8 x0)) (l0 : 0 ≤ x0) (u0 : x0 < 256) (hf : x0 / 64 = 3) :
    Calls Tryz.prog 94 #[.slice (some ⟨b, off, none⟩) n cap, .int .i64 (a : Int)] w fun e w' => e = .returned (.tuple #[.int .i64 0, .int .i64 0, .int .i64 2]) ∧ w' = w := by
  have hne : ((a : Int) == (n : Int)) = false := by rw [beq_eq_false_iff_ne]; omega
  have d := length_3 w ht.c3
  clear ht
  go_enter Tryz.func94, Tryz.ntmps94
  go_wp2_with (first
    | (go_at_call 98; refine (place_ok _ _ _ _ _ h (by omega) (by omega)).mono ?_; rintro e w' ⟨rfl, rfl⟩)
    | (go_at_call 99; refine d.mono ?_; rintro e w' ⟨rfl, rfl⟩))
  go_ret3
  exact ⟨rfl, rfl⟩
theorem implGetVar (v : Value) (xs : List Int) (a : Int) (w : World) (ht : Tab w) (hrow : Row w .u8 v xs) (hB : Bytes xs) (hm : xs.length ≤ 9223372036854775807) :
    Calls Tryz.prog 94 #[v, .int .i64 a] w fun e w' => e = .returned (.tuple #[.int .i64 (gv xs a).1, .int .i64 (gv xs a).2.1, .int .i64 (gv xs a).2.2]) ∧ w' = w := by
  by_cases h16 : 65536 < xs.length
  · have e : gv xs a = (0, 0, 4) := by unfold gv; rw [if_pos h16]
    rw [e]
    obtain ⟨ao, cap, rfl⟩ := hrow.form
    exact implGV_long ao _ cap a w h16 hm
  · by_cases hbad : a < 0 ∨ (xs.length : Int) < a
    · have e : gv xs a = (0, 0, 1) := by unfold gv; rw [if_neg h16, if_pos hbad]
      rw [e]
      obtain ⟨ao, cap, rfl⟩ := hrow.form
      exact implGV_bad ao _ cap a w (by omega) hbad
    · by_cases hend : a = xs.length
      · have e : gv xs a = (0, 0, 2) := by unfold gv; rw [if_neg h16, if_neg hbad, if_pos hend]
        rw [e]
        obtain ⟨ao, cap, rfl⟩ := hrow.form
        subst hend
        exact implGV_end ao _ cap w (by omega)
      · obtain ⟨i, rfl⟩ := Int.eq_ofNat_of_zero_le (show 0 ≤ a by omega)
        have hi : i < xs.length := by omega
        obtain ⟨b, off, cap, rfl, hb, hcap, hc⟩ := hrow.full (by omega)
        have hx := hB.at i
        have c0 := hc i hi
        by_cases hs : xs.length < i + gvn (xs.getD i 0)
        · rw [gv_short xs i (by omega) hi hs]
          rcases gv_form _ hx.1 hx.2 with ⟨hf, hn, _⟩ | ⟨hf, hn, _⟩ | ⟨hf, hn, _⟩ | ⟨hf, hn, _⟩
          · rw [hn] at hs; omega
          · rw [hn] at hs; exact implGV_short_2 b off _ cap i _ w ht (by omega) hi hs c0 hx.1 hx.2 hf
          · rw [hn] at hs; exact implGV_short_4 b off _ cap i _ w ht (by omega) hi hs c0 hx.1 hx.2 hf
          · rw [hn] at hs; exact implGV_short_8 b off _ cap i _ w ht (by omega) hi hs c0 hx.1 hx.2 hf
        · rw [gv_ok xs i (by omega) hi (by omega)]
          rcases gv_form _ hx.1 hx.2 with ⟨hf, hn, hmm⟩ | ⟨hf, hn, hmm⟩ | ⟨hf, hn, hmm⟩ | ⟨hf, hn, hmm⟩
          · rw [hn, hmm]
            rw [hn] at hs
            have hsl := sub_length xs i 1 (by omega)
            have hsB : Bytes ((xs.drop i).take 1) := (hB.drop i).take 1
            exact implGV_1 b off _ cap i _ _ w ht (by omega) (by omega) hcap c0 hx.1 hx.2 hf (vals_nonneg _ hsB) (vals_lt8 _ hsB (by omega))
              (fun cap' => read_core 1 _ b (off + i) cap' w (by decide) hsl hsB (fun j hj => by rw [Nat.add_assoc, hc (i + j) (by omega)]; simp [List.getD, hj]))
          · rw [hn, hmm]
            rw [hn] at hs
            have hsl := sub_length xs i 2 (by omega)
            have hsB : Bytes ((xs.drop i).take 2) := (hB.drop i).take 2
            exact implGV_2 b off _ cap i _ _ w ht (by omega) (by omega) hcap c0 hx.1 hx.2 hf (vals_nonneg _ hsB) (vals_lt8 _ hsB (by omega))
              (fun cap' => read_core 2 _ b (off + i) cap' w (by decide) hsl hsB (fun j hj => by rw [Nat.add_assoc, hc (i + j) (by omega)]; simp [List.getD, hj]))
          · rw [hn, hmm]
            rw [hn] at hs
            have hsl := sub_length xs i 4 (by omega)
            have hsB : Bytes ((xs.drop i).take 4) := (hB.drop i).take 4
            exact implGV_4 b off _ cap i _ _ w ht (by omega) (by omega) hcap c0 hx.1 hx.2 hf (vals_nonneg _ hsB) (vals_lt8 _ hsB (by omega))
              (fun cap' => read_core 4 _ b (off + i) cap' w (by decide) hsl hsB (fun j hj => by rw [Nat.add_assoc, hc (i + j) (by omega)]; simp [List.getD, hj]))
          · rw [hn, hmm]
            rw [hn] at hs
            have hsl := sub_length xs i 8 (by omega)
            have hsB : Bytes ((xs.drop i).take 8) := (hB.drop i).take 8
            exact implGV_8 b off _ cap i _ _ w ht (by omega) (by omega) hcap c0 hx.1 hx.2 hf (vals_nonneg _ hsB) (vals_lt8 _ hsB (by omega))
              (fun cap' => read_core 8 _ b (off + i) cap' w (by decide) hsl hsB (fun j hj => by rw [Nat.add_assoc, hc (i + j) (by omega)]; simp [List.getD, hj]))
end Go.Proofs.YtoalillggafnpaaGreatDoor

namespace Go.Proofs.YtoalillggafnpaaGreatDoor
open Go.RowKit
set_option linter.unusedVariables false

/-- The bytes from p on, k of them. -/
def sub (xs : List Int) (p k : Nat) : List Int := (xs.drop p).take k
theorem sub_len (xs : List Int) (p k : Nat) (h : p + k ≤ xs.length) : (sub xs p k).length = k := sub_length xs p k h
theorem sub_bytes {xs : List Int} (h : Bytes xs) (p k : Nat) : Bytes (sub xs p k) := (h.drop p).take k
theorem numK_lt (xs : List Int) (hb : Bytes xs) (p k : Nat) (hk : k ≤ 4) : 0 ≤ vals (sub xs p k) ∧ vals (sub xs p k) < 4294967296 := by
  refine ⟨vals_nonneg _ (sub_bytes hb p k), ?_⟩
  have h := vals_lt (sub xs p k) (sub_bytes hb p k)
  have hl : (sub xs p k).length ≤ 4 := by unfold sub; rw [List.length_take]; omega
  generalize (sub xs p k).length = m at *
  have : m = 0 ∨ m = 1 ∨ m = 2 ∨ m = 3 ∨ m = 4 := by omega
  rcases this with rfl | rfl | rfl | rfl | rfl <;> simp at h <;> omega
theorem number_no (g : Nat) (ao : Option Addr) (n cap : Nat) (p k : Int) (w : World) (h : rdB w g (.slice ao n cap) p) (hp : 0 ≤ p ∧ p ≤ n) (hn : n ≤ 9223372036854775807) (hk : (n : Int) - p < k) :
    Calls Tryz.prog 57 #[.pointer (some ⟨g, 0, none⟩), .int .i64 k] w fun e w' => e = .panicked [leftP 2] ∧ Chg (· = g) w w' := by
  have ht := take_no g ao n cap p k w h hp hn hk
  go_enter Tryz.func57, Tryz.ntmps57
  go_wp2_with fail
  go_at_call 78
  refine ht.mono ?_
  rintro e w' ⟨rfl, rfl⟩
  go_wp2
  exact ⟨rfl, rfl, ⟨rfl, rfl, rfl, Nat.le_refl _, fun _ _ _ => rfl⟩⟩
set_option maxRecDepth 20000 in
theorem number_ok (g b off n cap p k : Nat) (xs : List Int) (w : World) (h : rdB w g (.slice (some ⟨b, off, none⟩) n cap) p) (hl : Lies w b off n cap xs) (hB : Bytes xs) (hgb : b ≠ g) (hn : n ≤ 65536) (hk : p + k ≤ n) (hk1 : 1 ≤ k) (hk4 : k ≤ 4) :
    Calls Tryz.prog 57 #[.pointer (some ⟨g, 0, none⟩), .int .i64 k] w fun e w' => e = .returned (.int .i64 (vals (sub xs p k))) ∧
      rdB w' g (.slice (some ⟨b, off, none⟩) n cap) ((p + k : Nat) : Int) ∧ Chg (· = g) w w' := by
  have ht := take_ok g b off n cap p k xs w h hl hgb hn hk
  have hv := numK_lt xs hB p k hk4
  have hlen : (sub xs p k).length = k := sub_len xs p k (by rw [hl.len]; exact hk)
  have hby := sub_bytes hB p k
  have HH : Hid _ := And.intro hlen (And.intro hby (And.intro hk1 hk4))
  change Calls _ _ _ _ fun e w' => ∃ v, e = .returned v ∧ w'.ownsRow w.heap.size 5 1 v k ((sub xs p k).map (Value.int .u8)) ∧ _ at ht
  generalize sub xs p k = ys at *
  have hw : IntKind.i64.wrap (vals ys) = vals ys := by rw [IntKind.wrap_i64]; omega
  clear hlen hby hv hk1 hk4 hl hB hk
  go_enter Tryz.func57, Tryz.ntmps57
  go_wp2_with fail
  go_at_call 78
  refine ht.mono ?_
  rintro e w1 ⟨v, rfl, o1, r1, c1⟩
  obtain ⟨q, cp, ev, hq, hq2⟩ := owns_shape o1 HH.out.2.2.1
  subst ev
  have hc := read_core k ys q 0 cp w1 (by have := HH.out.2.2.2; omega) HH.out.1 HH.out.2.1 (fun j hj => by have := owns_cell o1 HH.out.1 hj; rwa [Nat.zero_add])
  have HF : Hid _ := And.intro r1 c1
  clear r1 c1 o1 hq hq2
  go_wp2_with fail
  go_at_call 77
  refine hc.mono ?_
  rintro e w2 ⟨rfl, rfl⟩
  go_wp2
  go_ret
  exact ⟨rfl, HF.out.1, HF.out.2⟩
/-- Whether a number in the variable form stands at p; the number; the place behind it. -/
abbrev varOK (xs : List Int) (p : Nat) : Prop := p < xs.length ∧ p + gvn (xs.getD p 0) ≤ xs.length
def varV (xs : List Int) (p : Nat) : Int := vals (sub xs p (gvn (xs.getD p 0))) % gvm (xs.getD p 0)
def varN (xs : List Int) (p : Nat) : Nat := p + gvn (xs.getD p 0)
theorem gv_yes (xs : List Int) (p : Nat) (h : xs.length ≤ 65536) (hv : varOK xs p) : gv xs (p : Int) = (varV xs p, ((varN xs p : Nat) : Int), 0) := by
  rw [gv_ok xs p h hv.1 hv.2]
  simp [varV, varN, sub]
theorem gv_not (xs : List Int) (p : Nat) (h : xs.length ≤ 65536) (hp : p ≤ xs.length) (hv : ¬ varOK xs p) : gv xs (p : Int) = (0, 0, 2) := by
  by_cases e : p = xs.length
  · unfold gv
    rw [if_neg (by omega), if_neg (by omega), if_pos (by omega)]
  · exact gv_short xs p h (by omega) (by unfold varOK at hv; omega)
theorem varV_bd (xs : List Int) (p : Nat) : 0 ≤ varV xs p ∧ varV xs p < 4611686018427387904 := by
  unfold varV gvm
  split
  · omega
  · split
    · omega
    · split <;> omega
theorem varN_bd (xs : List Int) (p : Nat) (h : varOK xs p) : p < varN xs p ∧ varN xs p ≤ xs.length := by
  have := gvn_bd (xs.getD p 0)
  exact ⟨by unfold varN; omega, h.2⟩
set_option maxRecDepth 20000 in
set_option maxHeartbeats 1000000 in
theorem variable_ok (g b off n cap p : Nat) (xs : List Int) (w : World) (ht : Tab w) (h : rdB w g (.slice (some ⟨b, off, none⟩) n cap) p) (hl : Lies w b off n cap xs) (hB : Bytes xs) (hn : n ≤ 65536) (hv : varOK xs p) :
    Calls Tryz.prog 84 #[.pointer (some ⟨g, 0, none⟩)] w fun e w' => e = .returned (.int .i64 (varV xs p)) ∧
      rdB w' g (.slice (some ⟨b, off, none⟩) n cap) ((varN xs p : Nat) : Int) ∧ Chg (· = g) w w' := by
  have hr : Row w.drew .u8 (.slice (some ⟨b, off, none⟩) n cap) xs := by
    have := (hl.row 0 n (by omega)).drewN 1
    rwa [Nat.add_zero, Nat.sub_zero, List.drop_zero, List.take_of_length_le (by rw [hl.len]; exact Nat.le_refl _)] at this
  have hg := implGetVar _ xs p w.drew (ht.below (B := w.heap.size) ⟨rfl, rfl, rfl, Nat.le_refl _, fun _ _ => rfl⟩ ht.lt) hr hB (by rw [hl.len]; omega)
  rw [gv_yes xs p (by rw [hl.len]; exact hn) hv] at hg
  dsimp only at hg
  have c0 : w.drew.cell? ⟨g, 0, none⟩ = _ := h.c0
  have c1 : w.drew.cell? ⟨g, 1, none⟩ = _ := h.c1
  have f1 : w.drew.frozen? ⟨g, 1, none⟩ = false := h.fr 1
  have HH : Hid _ := And.intro h True.intro
  generalize varV xs p = V at *
  generalize varN xs p = N at *
  clear h hr hl hv
  go_enter Tryz.func84, Tryz.ntmps84
  go_wp2_with fail
  go_region_with (go_at_call 94; refine hg.mono ?_; rintro e w2 ⟨rfl, hw2⟩; rw [hw2]; clear hw2 w2)
  all_goals (go_wp2_with fail; go_at_call 55; refine (leaveIf_f _ 0 _).mono ?_; rintro e w3 ⟨rfl, hw3⟩; rw [hw3]; clear hw3 w3; go_wp2_with fail; go_ret)
  all_goals (exact ⟨rfl, HH.out.1.set _, ⟨rfl, rfl, rfl, by simp [World.setCell], fun q hq hs => bk_other (w := w) hs 1 _⟩⟩)
set_option maxRecDepth 20000 in
set_option maxHeartbeats 1000000 in
theorem variable_no (g b off n cap p : Nat) (xs : List Int) (w : World) (ht : Tab w) (h : rdB w g (.slice (some ⟨b, off, none⟩) n cap) p) (hl : Lies w b off n cap xs) (hB : Bytes xs) (hn : n ≤ 65536) (hp : p ≤ n) (hv : ¬ varOK xs p) :
    Calls Tryz.prog 84 #[.pointer (some ⟨g, 0, none⟩)] w fun e w' => e = .panicked [leftP 2] ∧ Chg (· = g) w w' := by
  have hr : Row w.drew .u8 (.slice (some ⟨b, off, none⟩) n cap) xs := by
    have := (hl.row 0 n (by omega)).drewN 1
    rwa [Nat.add_zero, Nat.sub_zero, List.drop_zero, List.take_of_length_le (by rw [hl.len]; exact Nat.le_refl _)] at this
  have hg := implGetVar _ xs p w.drew (ht.below (B := w.heap.size) ⟨rfl, rfl, rfl, Nat.le_refl _, fun _ _ => rfl⟩ ht.lt) hr hB (by rw [hl.len]; omega)
  rw [gv_not xs p (by rw [hl.len]; exact hn) (by rw [hl.len]; exact hp) hv] at hg
  dsimp only at hg
  have c0 : w.drew.cell? ⟨g, 0, none⟩ = _ := h.c0
  have c1 : w.drew.cell? ⟨g, 1, none⟩ = _ := h.c1
  clear h hr hl hv
  go_enter Tryz.func84, Tryz.ntmps84
  go_wp2_with fail
  go_region_with (go_at_call 94; refine hg.mono ?_; rintro e w2 ⟨rfl, hw2⟩; rw [hw2]; clear hw2 w2)
  all_goals (go_wp2_with fail; go_at_call 55; refine (leaveIf_t _ 2 _).mono ?_; rintro e w3 ⟨rfl, hw3⟩; rw [hw3]; clear hw3 w3; go_wp2_with fail)
  all_goals (exact ⟨rfl, rfl, ⟨rfl, rfl, rfl, Nat.le_refl _, fun _ _ _ => rfl⟩⟩)
/-- A reading of an id at p: the code, or the id and the place behind it. -/
def pkCid (xs : List Int) (p : Nat) : Except Int (List Int × Nat) :=
  if xs.length < p + 1 then .error 2
  else if 8 < vals (sub xs p 1) then .error 3
  else if xs.length < p + 1 + (vals (sub xs p 1)).toNat then .error 2
  else .ok (sub xs (p + 1) (vals (sub xs p 1)).toNat, p + 1 + (vals (sub xs p 1)).toNat)
set_option maxRecDepth 20000 in
set_option maxHeartbeats 1000000 in
theorem cidC (g b off n cap p : Nat) (xs : List Int) (w : World) (h : rdB w g (.slice (some ⟨b, off, none⟩) n cap) p) (hl : Lies w b off n cap xs) (hB : Bytes xs) (hgb : b ≠ g) (hn : n ≤ 65536) (hp : p ≤ n) :
    Calls Tryz.prog 80 #[.pointer (some ⟨g, 0, none⟩)] w fun e w' => Chg (· = g) w w' ∧ ((∃ c, pkCid xs p = .error c ∧ e = .panicked [leftP c]) ∨
      ∃ d q v, pkCid xs p = .ok (d, q) ∧ e = .returned v ∧ w'.ownsRow w.heap.size 5 1 v d.length (d.map (Value.int .u8)) ∧ rdB w' g (.slice (some ⟨b, off, none⟩) n cap) (q : Int) ∧ p < q ∧ q ≤ n ∧ d.length ≤ 8) := by
  have hlen := hl.len
  by_cases h1 : n < p + 1
  · have hc := number_no g (some ⟨b, off, none⟩) n cap p 1 w h ⟨by omega, by omega⟩ (by omega) (by omega)
    have e : pkCid xs p = .error 2 := by unfold pkCid; rw [if_pos (by omega)]
    have HE : Hid _ := And.intro e True.intro
    clear h hl hB e hlen
    go_enter Tryz.func80, Tryz.ntmps80
    go_wp2_with fail
    go_at_call 57
    refine hc.mono ?_
    rintro e w1 ⟨rfl, c1⟩
    go_wp2_with fail
    exact ⟨rfl, c1, Or.inl ⟨2, HE.out.1, rfl⟩⟩
  have hc := number_ok g b off n cap p 1 xs w h hl hB hgb hn (by omega) (by decide) (by decide)
  have hv := numK_lt xs hB p 1 (by decide)
  by_cases h2 : 8 < vals (sub xs p 1)
  · have e : pkCid xs p = .error 3 := by unfold pkCid; rw [if_neg (by omega), if_pos h2]
    have HE : Hid _ := And.intro e True.intro
    replace h2 : decide (8 < vals (sub xs p 1)) = true := decide_eq_true h2
    generalize vals (sub xs p 1) = V at *
    clear h hl hB e hlen
    go_enter Tryz.func80, Tryz.ntmps80
    go_wp2_with fail
    go_at_call 57
    refine hc.mono ?_
    rintro e w1 ⟨rfl, r1, c1⟩
    go_wp2_with fail
    go_at_call 55
    refine (leaveIf_t _ 3 _).mono ?_
    rintro e w2 ⟨rfl, rfl⟩
    go_wp2_with fail
    exact ⟨rfl, c1, Or.inl ⟨3, HE.out.1, rfl⟩⟩
  obtain ⟨V, hV⟩ : ∃ V : Nat, vals (sub xs p 1) = (V : Int) := ⟨(vals (sub xs p 1)).toNat, by omega⟩
  rw [hV] at hc h2
  have h2' : V ≤ 8 := by omega
  replace h2 : decide ((8 : Int) < (V : Int)) = false := decide_eq_false (by omega)
  by_cases h3 : n < p + 1 + V
  · have e : pkCid xs p = .error 2 := by unfold pkCid; rw [hV, if_neg (by omega), if_neg (by omega), Int.toNat_natCast, if_pos (by omega)]
    have HE : Hid _ := And.intro e (And.intro h3 (And.intro hn h1))
    clear h hl hB e hlen hV hv
    go_enter Tryz.func80, Tryz.ntmps80
    go_wp2_with fail
    go_at_call 57
    refine hc.mono ?_
    rintro e w1 ⟨rfl, r1, c1⟩
    have ht := take_no g (some ⟨b, off, none⟩) n cap ((p + 1 : Nat) : Int) V w1 r1 ⟨by omega, by have := HE.out.2.2.2; omega⟩ (by have := HE.out.2.2.1; omega) (by have := HE.out.2.1; omega)
    have HC : Hid _ := And.intro c1 True.intro
    clear r1 c1
    go_wp2_with fail
    go_at_call 55
    refine (leaveIf_f _ 3 _).mono ?_
    rintro e w2 ⟨rfl, rfl⟩
    go_wp2_with fail
    go_at_call 78
    refine ht.mono ?_
    rintro e w3 ⟨rfl, rfl⟩
    go_wp2_with fail
    exact ⟨rfl, HC.out.1.trans ⟨rfl, rfl, rfl, Nat.le_refl _, fun _ _ _ => rfl⟩, Or.inl ⟨2, HE.out.1, rfl⟩⟩
  · have e : pkCid xs p = .ok (sub xs (p + 1) V, p + 1 + V) := by unfold pkCid; rw [hV, if_neg (by omega), if_neg (by omega), Int.toNat_natCast, if_neg (by omega)]
    have hsl : (sub xs (p + 1) V).length = V := sub_len xs (p + 1) V (by omega)
    have HE : Hid _ := And.intro e (And.intro h3 (And.intro hn (And.intro hl (And.intro hgb (And.intro hsl h2')))))
    clear h hl hB e hlen hV hv hsl
    go_enter Tryz.func80, Tryz.ntmps80
    go_wp2_with fail
    go_at_call 57
    refine hc.mono ?_
    rintro e w1 ⟨rfl, r1, c1⟩
    have ht := take_ok g b off n cap (p + 1) V xs w1 r1 (HE.out.2.2.2.1.chg c1 HE.out.2.2.2.2.1) HE.out.2.2.2.2.1 HE.out.2.2.1 (by have := HE.out.2.1; omega)
    have HC : Hid _ := And.intro c1 True.intro
    clear r1 c1
    go_wp2_with fail
    go_at_call 55
    refine (leaveIf_f _ 3 _).mono ?_
    rintro e w2 ⟨rfl, rfl⟩
    go_wp2_with fail
    go_at_call 78
    refine ht.mono ?_
    rintro e w3 ⟨v, rfl, o3, r3, c3⟩
    have HF : Hid _ := And.intro o3 (And.intro r3 c3)
    clear o3 r3 c3
    go_wp2_with fail
    go_ret
    refine ⟨HC.out.1.trans HF.out.2.2, Or.inr ⟨_, _, v, HE.out.1, rfl, ?_, HF.out.2.1, by omega, by have := HE.out.2.1; omega, by rw [HE.out.2.2.2.2.2.1]; exact HE.out.2.2.2.2.2.2⟩⟩
    rw [HE.out.2.2.2.2.2.1]
    exact owns_mono HF.out.1 HC.out.1.size
end Go.Proofs.YtoalillggafnpaaGreatDoor

namespace Go.Proofs.YtoalillggafnpaaGreatDoor
open Go.RowKit
set_option linter.unusedVariables false

theorem Chg.mono {S T : Nat → Prop} {w w' : World} (h : Chg S w w') (hs : ∀ k, S k → T k) : Chg T w w' := ⟨h.os, h.tape, h.output, h.size, fun k hk hn => h.block k hk (fun hh => hn (hs k hh))⟩
theorem Chg.set {S : Nat → Prop} {w w' : World} (h : Chg S w w') (g i : Nat) (u : Value) (hg : S g) : Chg S w (w'.setCell ⟨g, i, none⟩ u) :=
  h.trans ⟨rfl, rfl, rfl, by simp [World.setCell], fun q hq hs => bk_other (fun e => hs (by rw [e]; exact hg)) i u⟩
/-- The blocks of the reader and of what is peeked. -/
abbrev SG (g pb : Nat) : Nat → Prop := fun k => k = g ∨ k = pb
theorem Chg.toG {g pb : Nat} {w w' : World} (h : Chg (· = g) w w') : Chg (SG g pb) w w' := h.mono fun _ hk => Or.inl hk
theorem Chg.setP {g pb : Nat} {w w' : World} (h : Chg (SG g pb) w w') (i : Nat) (u : Value) : Chg (SG g pb) w (w'.setCell ⟨pb, i, none⟩ u) := h.set pb i u (Or.inr rfl)
theorem Chg.drew {S : Nat → Prop} {w w' : World} (h : Chg S w w') : Chg S w w'.drew := h.trans ⟨rfl, rfl, rfl, Nat.le_refl _, fun _ _ _ => rfl⟩
theorem Chg.refl (S : Nat → Prop) (w : World) : Chg S w w := ⟨rfl, rfl, rfl, Nat.le_refl _, fun _ _ _ => rfl⟩
/-- What of a packet is peeked, as its block holds it. -/
def pkB (w : World) (pb : Nat) (f v : Int) (vd vs vt vv : Value) (na fin : Int) : Prop :=
  w.heap[pb]? = some (.cells #[.int .i64 f, .int .i64 v, vd, vs, vt, .int .i64 0, .int .i64 0, .int .i64 0, vv, .int .i64 na, .int .i64 fin] 62 (0, 0))
theorem pkB.chg {w w' : World} {pb : Nat} {f v : Int} {vd vs vt vv : Value} {na fin : Int} {S : Nat → Prop} (h : pkB w pb f v vd vs vt vv na fin) (hc : Chg S w w') (hs : ¬ S pb) : pkB w' pb f v vd vs vt vv na fin :=
  (hc.block pb ((Array.getElem?_eq_some_iff.1 h).1) hs).trans h
theorem pkB.lt {w : World} {pb : Nat} {f v : Int} {vd vs vt vv : Value} {na fin : Int} (h : pkB w pb f v vd vs vt vv na fin) : pb < w.heap.size := (Array.getElem?_eq_some_iff.1 h).1
theorem rdB.chg {w w' : World} {g : Nat} {vb : Value} {p : Int} {S : Nat → Prop} (h : rdB w g vb p) (hc : Chg S w w') (hs : ¬ S g) : rdB w' g vb p := (hc.block g h.lt hs).trans h
theorem rdB.other {w : World} {g q i : Nat} {vb u : Value} {p : Int} (h : rdB w g vb p) (hq : q ≠ g) : rdB (w.setCell ⟨q, i, none⟩ u) g vb p := (bk_other (fun e => hq e.symm) i u).trans h

theorem pkB.set_f {w : World} {pb : Nat} {f v : Int} {vd vs vt vv : Value} {na fin : Int} (h : pkB w pb f v vd vs vt vv na fin) (x : Int) : pkB (w.setCell ⟨pb, 0, none⟩ (.int .i64 x)) pb x v vd vs vt vv na fin := bk_set h 0 _
theorem pkB.c_f {w : World} {pb : Nat} {f v : Int} {vd vs vt vv : Value} {na fin : Int} (h : pkB w pb f v vd vs vt vv na fin) : w.cell? ⟨pb, 0, none⟩ = some (.int .i64 f) := (bk_cell h 0).trans rfl
theorem pkB.set_v {w : World} {pb : Nat} {f v : Int} {vd vs vt vv : Value} {na fin : Int} (h : pkB w pb f v vd vs vt vv na fin) (x : Int) : pkB (w.setCell ⟨pb, 1, none⟩ (.int .i64 x)) pb f x vd vs vt vv na fin := bk_set h 1 _
theorem pkB.c_v {w : World} {pb : Nat} {f v : Int} {vd vs vt vv : Value} {na fin : Int} (h : pkB w pb f v vd vs vt vv na fin) : w.cell? ⟨pb, 1, none⟩ = some (.int .i64 v) := (bk_cell h 1).trans rfl
theorem pkB.set_vd {w : World} {pb : Nat} {f v : Int} {vd vs vt vv : Value} {na fin : Int} (h : pkB w pb f v vd vs vt vv na fin) (x : Value) : pkB (w.setCell ⟨pb, 2, none⟩ (x)) pb f v x vs vt vv na fin := bk_set h 2 _
theorem pkB.c_vd {w : World} {pb : Nat} {f v : Int} {vd vs vt vv : Value} {na fin : Int} (h : pkB w pb f v vd vs vt vv na fin) : w.cell? ⟨pb, 2, none⟩ = some (vd) := (bk_cell h 2).trans rfl
theorem pkB.set_vs {w : World} {pb : Nat} {f v : Int} {vd vs vt vv : Value} {na fin : Int} (h : pkB w pb f v vd vs vt vv na fin) (x : Value) : pkB (w.setCell ⟨pb, 3, none⟩ (x)) pb f v vd x vt vv na fin := bk_set h 3 _
theorem pkB.c_vs {w : World} {pb : Nat} {f v : Int} {vd vs vt vv : Value} {na fin : Int} (h : pkB w pb f v vd vs vt vv na fin) : w.cell? ⟨pb, 3, none⟩ = some (vs) := (bk_cell h 3).trans rfl
theorem pkB.set_vt {w : World} {pb : Nat} {f v : Int} {vd vs vt vv : Value} {na fin : Int} (h : pkB w pb f v vd vs vt vv na fin) (x : Value) : pkB (w.setCell ⟨pb, 4, none⟩ (x)) pb f v vd vs x vv na fin := bk_set h 4 _
theorem pkB.c_vt {w : World} {pb : Nat} {f v : Int} {vd vs vt vv : Value} {na fin : Int} (h : pkB w pb f v vd vs vt vv na fin) : w.cell? ⟨pb, 4, none⟩ = some (vt) := (bk_cell h 4).trans rfl
theorem pkB.set_vv {w : World} {pb : Nat} {f v : Int} {vd vs vt vv : Value} {na fin : Int} (h : pkB w pb f v vd vs vt vv na fin) (x : Value) : pkB (w.setCell ⟨pb, 8, none⟩ (x)) pb f v vd vs vt x na fin := bk_set h 8 _
theorem pkB.c_vv {w : World} {pb : Nat} {f v : Int} {vd vs vt vv : Value} {na fin : Int} (h : pkB w pb f v vd vs vt vv na fin) : w.cell? ⟨pb, 8, none⟩ = some (vv) := (bk_cell h 8).trans rfl
theorem pkB.set_na {w : World} {pb : Nat} {f v : Int} {vd vs vt vv : Value} {na fin : Int} (h : pkB w pb f v vd vs vt vv na fin) (x : Int) : pkB (w.setCell ⟨pb, 9, none⟩ (.int .i64 x)) pb f v vd vs vt vv x fin := bk_set h 9 _
theorem pkB.c_na {w : World} {pb : Nat} {f v : Int} {vd vs vt vv : Value} {na fin : Int} (h : pkB w pb f v vd vs vt vv na fin) : w.cell? ⟨pb, 9, none⟩ = some (.int .i64 na) := (bk_cell h 9).trans rfl
theorem pkB.set_fin {w : World} {pb : Nat} {f v : Int} {vd vs vt vv : Value} {na fin : Int} (h : pkB w pb f v vd vs vt vv na fin) (x : Int) : pkB (w.setCell ⟨pb, 10, none⟩ (.int .i64 x)) pb f v vd vs vt vv na x := bk_set h 10 _
theorem pkB.c_fin {w : World} {pb : Nat} {f v : Int} {vd vs vt vv : Value} {na fin : Int} (h : pkB w pb f v vd vs vt vv na fin) : w.cell? ⟨pb, 10, none⟩ = some (.int .i64 fin) := (bk_cell h 10).trans rfl
theorem pkB.fr {w : World} {pb : Nat} {f v : Int} {vd vs vt vv : Value} {na fin : Int} (h : pkB w pb f v vd vs vt vv na fin) (o : Nat) : w.frozen? ⟨pb, o, none⟩ = false := bk_free h o

/-- What stands behind a head: the number's place, the packet's end. -/
def pkBeh (xs : List Int) (p : Nat) : Except Int (Nat × Nat) :=
  if varOK xs p then (if varV xs p < 12 ∨ 1508 < varV xs p then .error 3 else if xs.length < varN xs p + (varV xs p).toNat then .error 2 else .ok (varN xs p, varN xs p + (varV xs p).toNat)) else .error 2
set_option maxRecDepth 20000 in
set_option maxHeartbeats 2000000 in
theorem behindC (g pb b off n cap p : Nat) (xs : List Int) (f v : Int) (vd vs vt vv : Value) (na fin : Int) (w : World) (ht : Tab w) (h : rdB w g (.slice (some ⟨b, off, none⟩) n cap) p) (hk : pkB w pb f v vd vs vt vv na fin)
    (hl : Lies w b off n cap xs) (hB : Bytes xs) (hgb : b ≠ g) (hgp : pb ≠ g) (hn : n ≤ 65536) (hp : p ≤ n) :
    Calls Tryz.prog 85 #[.pointer (some ⟨pb, 0, none⟩), .pointer (some ⟨g, 0, none⟩)] w fun e w' => Chg (SG g pb) w w' ∧ ((∃ c, pkBeh xs p = .error c ∧ e = .panicked [leftP c]) ∨
      ∃ a q : Nat, pkBeh xs p = .ok (a, q) ∧ e = .returned (.tuple #[]) ∧ pkB w' pb f v vd vs vt vv a q ∧ 0 < a ∧ q ≤ n) := by
  have hlen := hl.len
  by_cases h1 : varOK xs p
  case neg =>
    have hc := variable_no g b off n cap p xs w ht h hl hB hn hp h1
    have e : pkBeh xs p = .error 2 := by unfold pkBeh; rw [if_neg h1]
    have HE : Hid _ := And.intro e True.intro
    clear h hl hB e hlen h1 ht hk
    go_enter Tryz.func85, Tryz.ntmps85
    go_wp2_with fail
    go_at_call 84
    refine hc.mono ?_
    rintro e w1 ⟨rfl, c1⟩
    go_wp2_with fail
    exact ⟨rfl, c1.toG, Or.inl ⟨2, HE.out.1, rfl⟩⟩
  have hc := variable_ok g b off n cap p xs w ht h hl hB hn h1
  have hbd := varV_bd xs p
  have hNd := varN_bd xs p h1
  rw [hlen] at hNd
  obtain ⟨V, hV⟩ : ∃ V : Nat, varV xs p = (V : Int) := ⟨(varV xs p).toNat, by omega⟩
  obtain ⟨N, hN⟩ : ∃ N : Nat, varN xs p = N := ⟨_, rfl⟩
  rw [hV, hN] at hc
  rw [hV] at hbd
  rw [hN] at hNd
  by_cases h2 : V < 12 ∨ 1508 < V
  case pos =>
    have e : pkBeh xs p = .error 3 := by unfold pkBeh; rw [if_pos h1, hV, if_pos (by omega)]
    have HE : Hid _ := And.intro e True.intro
    clear h hl hB e hlen h1 ht hk
    by_cases h3 : V < 12
    · replace h3 : decide ((V : Int) < 12) = true := decide_eq_true (by omega)
      clear h2
      go_enter Tryz.func85, Tryz.ntmps85
      go_wp2_with fail
      go_at_call 84
      refine hc.mono ?_
      rintro e w1 ⟨rfl, r1, c1⟩
      go_wp2_with fail
      go_at_call 55
      refine (leaveIf_t _ 3 _).mono ?_
      rintro e w2 ⟨rfl, rfl⟩
      go_wp2_with fail
      exact ⟨rfl, c1.toG, Or.inl ⟨3, HE.out.1, rfl⟩⟩
    · have h4 : decide ((1508 : Int) < (V : Int)) = true := decide_eq_true (by omega)
      replace h3 : decide ((V : Int) < 12) = false := decide_eq_false (by omega)
      clear h2
      go_enter Tryz.func85, Tryz.ntmps85
      go_wp2_with fail
      go_at_call 84
      refine hc.mono ?_
      rintro e w1 ⟨rfl, r1, c1⟩
      go_wp2_with fail
      go_at_call 55
      refine (leaveIf_t _ 3 _).mono ?_
      rintro e w2 ⟨rfl, rfl⟩
      go_wp2_with fail
      exact ⟨rfl, c1.toG, Or.inl ⟨3, HE.out.1, rfl⟩⟩
  have h3 : decide ((V : Int) < 12) = false := decide_eq_false (by omega)
  have h4 : decide ((1508 : Int) < (V : Int)) = false := decide_eq_false (by omega)
  have hw : IntKind.i64.wrap ((N : Int) + V) = (N : Int) + V := by rw [IntKind.wrap_i64]; omega
  have HB : Hid _ := And.intro hNd (And.intro hn (And.intro hk (And.intro hgp hbd)))
  by_cases h5 : n < N + V
  case pos =>
    have e : pkBeh xs p = .error 2 := by unfold pkBeh; rw [if_pos h1, hV, hN, if_neg (by omega), Int.toNat_natCast, if_pos (by omega)]
    have HE : Hid _ := And.intro e True.intro
    replace h5 : decide ((n : Int) - N < V) = true := decide_eq_true (by omega)
    clear h hl hB e hlen h1 ht hk h2 hV hN hn hNd hp hbd hgp
    go_enter Tryz.func85, Tryz.ntmps85
    go_wp2_with fail
    go_at_call 84
    refine hc.mono ?_
    rintro e w1 ⟨rfl, r1, c1⟩
    have k1 := HB.out.2.2.1.chg c1 HB.out.2.2.2.1
    have x1 := r1.c1
    have y1 := k1.fr 9
    have z1 := k1.c_na
    have r2 := r1.other (i := 9) (u := .int .i64 N) HB.out.2.2.2.1
    have hr := restC g (some ⟨b, off, none⟩) n cap N _ r2 ⟨by omega, by have := HB.out.1; omega⟩ (by have := HB.out.2.1; omega)
    have HC : Hid _ := And.intro ((c1.toG (pb := pb)).setP 9 (.int .i64 N)) True.intro
    clear k1 r1 c1 r2
    go_wp2_with fail
    go_at_call 55
    refine (leaveIf_f _ 3 _).mono ?_
    rintro e w2 ⟨rfl, hw2⟩
    rw [hw2]; clear hw2 w2
    go_wp2_with fail
    go_at_call 79
    refine hr.mono ?_
    rintro e w3 ⟨rfl, hw3⟩
    rw [hw3]; clear hw3 w3
    go_wp2_with fail
    go_at_call 55
    refine (leaveIf_t _ 2 _).mono ?_
    rintro e w4 ⟨rfl, hw4⟩
    rw [hw4]; clear hw4 w4
    go_wp2_with fail
    exact ⟨rfl, HC.out.1.drew, Or.inl ⟨2, HE.out.1, rfl⟩⟩
  have e : pkBeh xs p = .ok (N, N + V) := by unfold pkBeh; rw [if_pos h1, hV, hN, if_neg (by omega), Int.toNat_natCast, if_neg (by omega)]
  have HE : Hid _ := And.intro e h5
  replace h5 : decide ((n : Int) - N < V) = false := decide_eq_false (by omega)
  clear h hl hB e hlen h1 ht hk h2 hV hN hn hNd hp hbd hgp
  go_enter Tryz.func85, Tryz.ntmps85
  go_wp2_with fail
  go_at_call 84
  refine hc.mono ?_
  rintro e w1 ⟨rfl, r1, c1⟩
  have k1 := HB.out.2.2.1.chg c1 HB.out.2.2.2.1
  have x1 := r1.c1
  have y1 := k1.fr 9
  have z1 := k1.c_na
  have r2 := r1.other (i := 9) (u := .int .i64 N) HB.out.2.2.2.1
  have k2 := k1.set_na N
  have hr := restC g (some ⟨b, off, none⟩) n cap N _ r2 ⟨by omega, by have := HB.out.1; omega⟩ (by have := HB.out.2.1; omega)
  have x2 := r2.drew.c1
  have y2 : (w1.setCell ⟨pb, 9, none⟩ (.int .i64 N)).drew.frozen? ⟨pb, 10, none⟩ = false := k2.fr 10
  have z2 : (w1.setCell ⟨pb, 9, none⟩ (.int .i64 N)).drew.cell? ⟨pb, 10, none⟩ = _ := k2.c_fin
  have k3 : pkB ((w1.setCell ⟨pb, 9, none⟩ (.int .i64 N)).setCell ⟨pb, 10, none⟩ (.int .i64 ((N : Int) + V))) pb f v vd vs vt vv N ((N : Int) + V) := k2.set_fin _
  have HC : Hid _ := And.intro (((c1.toG (pb := pb)).setP 9 (.int .i64 N)).setP 10 (.int .i64 ((N : Int) + V))) k3
  clear k1 r1 c1 r2 k2 k3
  go_wp2_with fail
  go_at_call 55
  refine (leaveIf_f _ 3 _).mono ?_
  rintro e w2 ⟨rfl, hw2⟩
  rw [hw2]; clear hw2 w2
  go_wp2_with fail
  go_at_call 79
  refine hr.mono ?_
  rintro e w3 ⟨rfl, hw3⟩
  rw [hw3]; clear hw3 w3
  go_wp2_with fail
  go_at_call 55
  refine (leaveIf_f _ 2 _).mono ?_
  rintro e w4 ⟨rfl, hw4⟩
  rw [hw4]; clear hw4 w4
  go_wp2_with fail
  go_end0
  refine ⟨HC.out.1.drew, Or.inr ⟨N, N + V, HE.out.1, rfl, HC.out.2, by have := HB.out.1; omega, by have := HE.out.2; omega⟩⟩
end Go.Proofs.YtoalillggafnpaaGreatDoor

namespace Go.Proofs.YtoalillggafnpaaGreatDoor
open Go.RowKit
set_option linter.unusedVariables false

theorem Lies.drew {w : World} {b off n cap : Nat} {xs : List Int} (h : Lies w b off n cap xs) : Lies w.drew b off n cap xs := h.chg (Chg.refl (fun _ => False) w).drew (fun h => h)
theorem Lies.setP {w : World} {b off n cap pb i : Nat} {u : Value} {xs : List Int} (h : Lies w b off n cap xs) (hb : b ≠ pb) : Lies (w.setCell ⟨pb, i, none⟩ u) b off n cap xs := h.chg ((Chg.refl (· = pb) w).set pb i u rfl) hb
/-- What a retry holds behind its ids: the token. -/
def pkRet (xs : List Int) (p : Nat) : Except Int (List Int) :=
  if xs.length < p + 9 then .error 2 else if p + 72 < xs.length then .error 3 else .ok (sub xs p (xs.length - p - 8))
set_option maxRecDepth 20000 in
set_option maxHeartbeats 2000000 in
theorem retryRC (g pb b off n cap p : Nat) (xs : List Int) (f v : Int) (vd vs vt vv : Value) (na fin : Int) (w : World) (h : rdB w g (.slice (some ⟨b, off, none⟩) n cap) p) (hk : pkB w pb f v vd vs vt vv na fin)
    (hl : Lies w b off n cap xs) (hgb : b ≠ g) (hgp : pb ≠ g) (hn : n ≤ 65536) (hp : p ≤ n) :
    Calls Tryz.prog 83 #[.pointer (some ⟨pb, 0, none⟩), .pointer (some ⟨g, 0, none⟩)] w fun e w' => Chg (SG g pb) w w' ∧ ((∃ c, pkRet xs p = .error c ∧ e = .panicked [leftP c]) ∨
      ∃ t vt', pkRet xs p = .ok t ∧ e = .returned (.tuple #[]) ∧ pkB w' pb f v vd vs vt' vv na n ∧ w'.ownsRow w.heap.size 5 1 vt' t.length (t.map (Value.int .u8)) ∧ t.length ≤ 64) := by
  have hlen := hl.len
  have hr := restC g (some ⟨b, off, none⟩) n cap p w h ⟨by omega, by omega⟩ (by omega)
  have hw : IntKind.i64.wrap ((n : Int) - p - 8) = (n : Int) - p - 8 := by rw [IntKind.wrap_i64]; omega
  by_cases h1 : n < p + 9
  · have e : pkRet xs p = .error 2 := by unfold pkRet; rw [if_pos (by omega)]
    have HE : Hid _ := And.intro e True.intro
    replace h1 : decide ((n : Int) - p - 8 < 1) = true := decide_eq_true (by omega)
    clear h hl e hlen hk
    go_enter Tryz.func83, Tryz.ntmps83
    go_wp2_with fail
    go_at_call 79
    refine hr.mono ?_
    rintro e w1 ⟨rfl, hw1⟩
    rw [hw1]; clear hw1 w1
    go_wp2_with fail
    go_at_call 55
    refine (leaveIf_t _ 2 _).mono ?_
    rintro e w2 ⟨rfl, hw2⟩
    rw [hw2]; clear hw2 w2
    go_wp2_with fail
    exact ⟨rfl, (Chg.refl _ w).drew, Or.inl ⟨2, HE.out.1, rfl⟩⟩
  have h1' : decide ((n : Int) - p - 8 < 1) = false := decide_eq_false (by omega)
  by_cases h2 : p + 72 < n
  · have e : pkRet xs p = .error 3 := by unfold pkRet; rw [if_neg (by omega), if_pos (by omega)]
    have HE : Hid _ := And.intro e True.intro
    replace h2 : decide (64 < (n : Int) - p - 8) = true := decide_eq_true (by omega)
    clear h hl e hlen hk h1
    go_enter Tryz.func83, Tryz.ntmps83
    go_wp2_with fail
    go_at_call 79
    refine hr.mono ?_
    rintro e w1 ⟨rfl, hw1⟩
    rw [hw1]; clear hw1 w1
    go_wp2_with fail
    go_at_call 55
    refine (leaveIf_f _ 2 _).mono ?_
    rintro e w2 ⟨rfl, hw2⟩
    rw [hw2]; clear hw2 w2
    go_wp2_with fail
    go_at_call 55
    refine (leaveIf_t _ 3 _).mono ?_
    rintro e w2 ⟨rfl, hw2⟩
    rw [hw2]; clear hw2 w2
    go_wp2_with fail
    exact ⟨rfl, (Chg.refl _ w).drew, Or.inl ⟨3, HE.out.1, rfl⟩⟩
  obtain ⟨m, hm⟩ : ∃ m : Nat, n = p + m + 8 := ⟨n - p - 8, by omega⟩
  have e : pkRet xs p = .ok (sub xs p m) := by unfold pkRet; rw [if_neg (by omega), if_neg (by omega), show xs.length - p - 8 = m by omega]
  have hsl : (sub xs p m).length = m := sub_len xs p m (by omega)
  have hm' : (n : Int) - p = (m : Int) + 8 := by omega
  have hw : IntKind.i64.wrap ((m : Int) + 8 - 8) = (m : Int) := by rw [IntKind.wrap_i64]; omega
  rw [hm'] at hr
  have h1' : decide ((m : Int) < 1) = false := decide_eq_false (by omega)
  have h2' : decide ((64 : Int) < (m : Int)) = false := decide_eq_false (by omega)
  have ht := take_ok g b off n cap p m xs w.drew h.drew hl.drew hgb hn (by omega)
  have HE : Hid _ := And.intro e (And.intro hsl (And.intro hk (And.intro hgp (by omega : m ≤ 64))))
  have c0 := h.c0
  change Calls _ _ _ _ fun e w' => ∃ v, e = .returned v ∧ w'.ownsRow w.drew.heap.size 5 1 v m ((sub xs p m).map (Value.int .u8)) ∧ _ at ht
  generalize sub xs p m = ys at *
  clear h hl e hlen hk h1 h2 hm hsl
  go_enter Tryz.func83, Tryz.ntmps83
  go_wp2_with fail
  go_at_call 79
  refine hr.mono ?_
  rintro e w1 ⟨rfl, hw1⟩
  rw [hw1]; clear hw1 w1
  go_wp2_with fail
  go_at_call 55
  refine (leaveIf_f _ 2 _).mono ?_
  rintro e w2 ⟨rfl, hw2⟩
  rw [hw2]; clear hw2 w2
  go_wp2_with fail
  go_at_call 55
  refine (leaveIf_f _ 3 _).mono ?_
  rintro e w2 ⟨rfl, hw2⟩
  rw [hw2]; clear hw2 w2
  go_wp2_with fail
  go_at_call 78
  refine ht.mono ?_
  rintro e w3 ⟨vt', rfl, o3, r3, c3⟩
  obtain ⟨va, vp, ev⟩ := (row_of_owns o3).form
  rw [HE.out.2.1] at ev
  have c3' : Chg (· = g) w w3 := ((Chg.refl _ w).drew).trans c3
  have k3 := HE.out.2.2.1.chg c3' HE.out.2.2.2.1
  have x3 := k3.c_vt
  have y3 := k3.fr 4
  have k4 := k3.set_vt vt'
  have r4 := (r3.other (i := 4) (u := vt') HE.out.2.2.2.1).c0
  have x4 := k4.c_fin
  have y4 := k4.fr 10
  have k5 := k4.set_fin n
  have hs3 := k3.lt
  have hne : ∀ q, vt'.ownBlock = some q → some q ≠ some pb := fun q hq e => by have h1 := (o3.lt q hq).1; have h2 := HE.out.2.2.1.lt; have := Option.some.inj e; have h3 : w.drew.heap.size = w.heap.size := rfl; omega
  have o5 := ((Only.setCell (w := w3.setCell ⟨pb, 4, none⟩ vt') ⟨pb, 10, none⟩ (.int .i64 n)).owns ((Only.setCell (w := w3) ⟨pb, 4, none⟩ vt').owns o3 hne) hne)
  have HC : Hid _ := And.intro (((c3'.toG (pb := pb)).setP 4 vt').setP 10 (.int .i64 n)) (And.intro k5 o5)
  clear k3 k4 k5 r3 c3 c3' o3 o5 hne
  subst ev
  go_wp2_with fail
  go_end0
  exact ⟨HC.out.1, Or.inr ⟨_, _, HE.out.1, rfl, HC.out.2.1, by rw [HE.out.2.1]; exact HC.out.2.2, by rw [HE.out.2.1]; exact HE.out.2.2.2.2⟩⟩
/-- A short head: the id, the number's place. -/
def pkSho (xs : List Int) (p cl : Nat) : Except Int (List Int × Nat) := if xs.length < p + cl + 12 then .error 2 else .ok (sub xs p cl, p + cl)
set_option maxRecDepth 20000 in
set_option maxHeartbeats 2000000 in
theorem shortRC (g pb b off n cap p cl : Nat) (xs : List Int) (f v : Int) (vd vs vt vv : Value) (na fin : Int) (w : World) (h : rdB w g (.slice (some ⟨b, off, none⟩) n cap) p) (hk : pkB w pb f v vd vs vt vv na fin)
    (hl : Lies w b off n cap xs) (hgb : b ≠ g) (hgp : pb ≠ g) (hbp : b ≠ pb) (hn : n ≤ 65536) (hp : p ≤ n) (hcl : cl ≤ 8) :
    Calls Tryz.prog 58 #[.pointer (some ⟨pb, 0, none⟩), .pointer (some ⟨g, 0, none⟩), .int .i64 cl] w fun e w' => Chg (SG g pb) w w' ∧ ((∃ c, pkSho xs p cl = .error c ∧ e = .panicked [leftP c]) ∨
      ∃ d q vd', pkSho xs p cl = .ok (d, q) ∧ e = .returned (.tuple #[]) ∧ pkB w' pb 4 v vd' vs vt vv (q : Nat) n ∧ w'.ownsRow w.heap.size 5 1 vd' d.length (d.map (Value.int .u8)) ∧ d.length ≤ 8 ∧ p ≤ q ∧ q ≤ n) := by
  have hlen := hl.len
  have x0 := hk.c_f
  have y0 := hk.fr 0
  have k0 := hk.set_f 4
  have r0 := h.other (i := 0) (u := .int .i64 4) hgp
  have l0 := hl.setP (i := 0) (u := .int .i64 4) hbp
  have C0 := ((Chg.refl (SG g pb) w).setP 0 (.int .i64 4))
  by_cases h1 : n < p + cl
  · have ht := take_no g (some ⟨b, off, none⟩) n cap p cl _ r0 ⟨by omega, by omega⟩ (by omega) (by omega)
    have e : pkSho xs p cl = .error 2 := by unfold pkSho; rw [if_pos (by omega)]
    have HE : Hid _ := And.intro e C0
    clear h hl e hlen hk k0 r0 l0 C0
    go_enter Tryz.func58, Tryz.ntmps58
    go_wp2_with fail
    go_at_call 78
    refine ht.mono ?_
    rintro e w1 ⟨rfl, hw1⟩
    rw [hw1]; clear hw1 w1
    go_wp2_with fail
    exact ⟨rfl, HE.out.2.drew, Or.inl ⟨2, HE.out.1, rfl⟩⟩
  have ht := take_ok g b off n cap p cl xs _ r0 l0 hgb hn (by omega)
  have hsl : (sub xs p cl).length = cl := sub_len xs p cl (by omega)
  have hs0 : (w.setCell ⟨pb, 0, none⟩ (.int .i64 4)).heap.size = w.heap.size := by simp [World.setCell]
  have HE : Hid _ := And.intro hsl (And.intro k0 (And.intro hgp (And.intro C0 (And.intro hs0 (And.intro hk.lt hn)))))
  have hcl2 : p + cl ≤ n := by omega
  obtain ⟨pc, epc⟩ : ∃ pc : Nat, p + cl = pc := ⟨_, rfl⟩
  rw [epc] at ht hcl2
  by_cases h2 : n < p + cl + 12
  · have e : pkSho xs p cl = .error 2 := by unfold pkSho; rw [if_pos (by omega)]
    have HQ : Hid _ := And.intro e hcl2
    have h2' : decide ((n : Int) - (pc : Int) < 12) = true := decide_eq_true (by omega)
    change Calls _ _ _ _ fun e w' => ∃ v, e = .returned v ∧ w'.ownsRow _ 5 1 v cl ((sub xs p cl).map (Value.int .u8)) ∧ _ at ht
    generalize sub xs p cl = ys at *
    clear h hl e hlen hk k0 r0 l0 C0 hsl hs0 h1 hcl2
    go_enter Tryz.func58, Tryz.ntmps58
    go_wp2_with fail
    go_at_call 78
    refine ht.mono ?_
    rintro e w3 ⟨vd', rfl, o3, r3, c3⟩
    obtain ⟨va, vp, ev⟩ := (row_of_owns o3).form
    rw [show List.length _ = cl from HE.out.1] at ev
    have k3 := HE.out.2.1.chg c3 HE.out.2.2.1
    have x3 := k3.c_vd
    have y3 := k3.fr 2
    have k4 := k3.set_vd vd'
    have r4 := r3.other (i := 2) (u := vd') HE.out.2.2.1
    have z4 := r4.c1
    have x4 := k4.c_na
    have y4 := k4.fr 9
    have r5 := r4.other (i := 9) (u := .int .i64 (pc : Int)) HE.out.2.2.1
    have hr := restC g (some ⟨b, off, none⟩) n cap (pc : Int) _ r5 ⟨by omega, by have := HQ.out.2; omega⟩ (by have := HE.out.2.2.2.2.2.2; omega)
    have HC : Hid _ := And.intro (((HE.out.2.2.2.1.trans c3.toG).setP 2 vd').setP 9 (.int .i64 (pc : Int))) True.intro
    clear k3 k4 r3 c3 o3 r4 r5
    subst ev
    go_wp2_with fail
    go_at_call 79
    refine hr.mono ?_
    rintro e w1 ⟨rfl, hw1⟩
    rw [hw1]; clear hw1 w1
    go_wp2_with fail
    go_at_call 55
    refine (leaveIf_t _ 2 _).mono ?_
    rintro e w2 ⟨rfl, hw2⟩
    rw [hw2]; clear hw2 w2
    go_wp2_with fail
    exact ⟨rfl, HC.out.1.drew, Or.inl ⟨2, HQ.out.1, rfl⟩⟩
  · have e : pkSho xs p cl = .ok (sub xs p cl, pc) := by unfold pkSho; rw [if_neg (by omega), epc]
    have HQ : Hid _ := And.intro e hcl2
    have h2' : decide ((n : Int) - (pc : Int) < 12) = false := decide_eq_false (by omega)
    change Calls _ _ _ _ fun e w' => ∃ v, e = .returned v ∧ w'.ownsRow _ 5 1 v cl ((sub xs p cl).map (Value.int .u8)) ∧ _ at ht
    generalize sub xs p cl = ys at *
    clear h hl e hlen hk k0 r0 l0 C0 hsl hs0 h1 hcl2
    go_enter Tryz.func58, Tryz.ntmps58
    go_wp2_with fail
    go_at_call 78
    refine ht.mono ?_
    rintro e w3 ⟨vd', rfl, o3, r3, c3⟩
    obtain ⟨va, vp, ev⟩ := (row_of_owns o3).form
    rw [show List.length _ = cl from HE.out.1] at ev
    have k3 := HE.out.2.1.chg c3 HE.out.2.2.1
    have x3 := k3.c_vd
    have y3 := k3.fr 2
    have k4 := k3.set_vd vd'
    have r4 := r3.other (i := 2) (u := vd') HE.out.2.2.1
    have z4 := r4.c1
    have x4 := k4.c_na
    have y4 := k4.fr 9
    have k5 := k4.set_na (pc : Int)
    have r5 := r4.other (i := 9) (u := .int .i64 (pc : Int)) HE.out.2.2.1
    have hr := restC g (some ⟨b, off, none⟩) n cap (pc : Int) _ r5 ⟨by omega, by have := HQ.out.2; omega⟩ (by have := HE.out.2.2.2.2.2.2; omega)
    have z5 := r5.drew.c0
    have x5 : ((w3.setCell ⟨pb, 2, none⟩ vd').setCell ⟨pb, 9, none⟩ (.int .i64 (pc : Int))).drew.cell? ⟨pb, 10, none⟩ = _ := k5.c_fin
    have y5 : ((w3.setCell ⟨pb, 2, none⟩ vd').setCell ⟨pb, 9, none⟩ (.int .i64 (pc : Int))).drew.frozen? ⟨pb, 10, none⟩ = _ := k5.fr 10
    have k6 := k5.set_fin n
    have hne : ∀ q, vd'.ownBlock = some q → some q ≠ some pb := fun q hq e => by have h1 := (o3.lt q hq).1; have h2 := HE.out.2.2.2.2.2.1; have := Option.some.inj e; rw [HE.out.2.2.2.2.1] at h1; omega
    have o6 := (Only.setCell (w := (w3.setCell ⟨pb, 2, none⟩ vd').setCell ⟨pb, 9, none⟩ (.int .i64 (pc : Int))) ⟨pb, 10, none⟩ (.int .i64 n)).owns ((Only.setCell (w := w3.setCell ⟨pb, 2, none⟩ vd') ⟨pb, 9, none⟩ (.int .i64 (pc : Int))).owns ((Only.setCell (w := w3) ⟨pb, 2, none⟩ vd').owns o3 hne) hne) hne
    have HC : Hid _ := And.intro ((((HE.out.2.2.2.1.trans c3.toG).setP 2 vd').setP 9 (.int .i64 (pc : Int))).setP 10 (.int .i64 n)) (And.intro k6 (And.intro (owns_mono o6 (base' := w.heap.size) (by rw [HE.out.2.2.2.2.1]; exact Nat.le_refl _)) (by omega : p ≤ pc)))
    clear k3 k4 k5 k6 r3 c3 o3 o6 r4 r5 hne
    subst ev
    go_wp2_with fail
    go_at_call 79
    refine hr.mono ?_
    rintro e w1 ⟨rfl, hw1⟩
    rw [hw1]; clear hw1 w1
    go_wp2_with fail
    go_at_call 55
    refine (leaveIf_f _ 2 _).mono ?_
    rintro e w2 ⟨rfl, hw2⟩
    rw [hw2]; clear hw2 w2
    go_wp2_with fail
    go_end0
    exact ⟨HC.out.1.drew, Or.inr ⟨_, _, _, HQ.out.1, rfl, HC.out.2.1, by rw [HE.out.1]; exact HC.out.2.2.1, by rw [HE.out.1]; omega, HC.out.2.2.2, HQ.out.2⟩⟩
end Go.Proofs.YtoalillggafnpaaGreatDoor

namespace Go.Proofs.YtoalillggafnpaaGreatDoor
open Go.RowKit
set_option linter.unusedVariables false

theorem infoI64v : (Tryz.prog.info? 3).map (fun i => (i.zero, i.size, i.bytes)) = some (some (.int .i64 0), 1, 8) := by kernel_rfl
theorem grown_chg {w w' : World} {b : Option Nat} (h : w.grownBy w' b) : Chg (fun q => b = some q) w w' := by
  obtain ⟨h1, h2, h3, h4, h5⟩ := h
  exact ⟨h1, h2, h3, h4, fun k hk hn => h5 k hk (fun e => hn e.symm)⟩
theorem num_succ (k : Nat) (h : k ≤ 65536) : Value.int IntKind.i64 (wrap64 ((k : Int) + 1)) = Value.int IntKind.i64 ((k + 1 : Nat) : Int) := by congr 1; unfold wrap64; omega
/-- The versions of a list, four bytes each. -/
def versL (xs : List Int) (p k : Nat) : List Int := (List.range k).map fun i => vals (sub xs (p + 4 * i) 4)
theorem versL_succ (xs : List Int) (p k : Nat) : versL xs p (k + 1) = versL xs p k ++ [vals (sub xs (p + 4 * k) 4)] := by simp [versL, List.range_succ]
theorem versL_length (xs : List Int) (p k : Nat) : (versL xs p k).length = k := by simp [versL]
theorem versL_all (xs : List Int) (p m : Nat) : (versL xs p m).all (fun x => decide (x ≠ 0)) = true ↔ ∀ j, j < m → vals (sub xs (p + 4 * j) 4) ≠ 0 := by
  simp [versL]
def pkVer (xs : List Int) (p : Nat) : Except Int (List Int) :=
  if (xs.length - p) % 4 ≠ 0 ∨ (xs.length - p) / 4 < 1 ∨ 8 < (xs.length - p) / 4 then .error 3
  else if (versL xs p ((xs.length - p) / 4)).all (fun x => decide (x ≠ 0)) = true then .ok (versL xs p ((xs.length - p) / 4)) else .error 3
set_option maxRecDepth 20000 in
set_option maxHeartbeats 4000000 in
theorem versRC (g pb b off n cap p : Nat) (xs : List Int) (f v : Int) (vd vs vt : Value) (na fin : Int) (w : World) (h : rdB w g (.slice (some ⟨b, off, none⟩) n cap) p) (hk : pkB w pb f v vd vs vt (.slice none 0 0) na fin)
    (hl : Lies w b off n cap xs) (hB : Bytes xs) (hgb : b ≠ g) (hgp : pb ≠ g) (hbp : b ≠ pb) (hn : n ≤ 65536) (hp : p ≤ n) :
    Calls Tryz.prog 81 #[.pointer (some ⟨pb, 0, none⟩), .pointer (some ⟨g, 0, none⟩)] w fun e w' => Chg (SG g pb) w w' ∧ ((∃ c, pkVer xs p = .error c ∧ e = .panicked [leftP c]) ∨
      ∃ L vv', pkVer xs p = .ok L ∧ e = .returned (.tuple #[]) ∧ pkB w' pb 5 v vd vs vt vv' na n ∧ w'.ownsRow w.heap.size 3 1 vv' L.length (L.map (Value.int .i64)) ∧ L.length ≤ 8) := by
  have hlen := hl.len
  have hr := restC g (some ⟨b, off, none⟩) n cap p w h ⟨by omega, by omega⟩ (by omega)
  have hr2 := restC g (some ⟨b, off, none⟩) n cap p w.drew h.drew ⟨by omega, by omega⟩ (by omega)
  obtain ⟨R, hR⟩ : ∃ R : Nat, n = p + R := ⟨n - p, by omega⟩
  obtain ⟨m, hm⟩ : ∃ m : Nat, R / 4 = m := ⟨_, rfl⟩
  obtain ⟨j, hj⟩ : ∃ j : Nat, R % 4 = j := ⟨_, rfl⟩
  have hRi : (n : Int) - p = (R : Int) := by omega
  rw [hRi] at hr hr2
  have hq : (R : Int).tdiv 4 = (m : Int) := by rw [Int.tdiv_eq_ediv_of_nonneg (by omega)]; omega
  have hqw : IntKind.i64.wrap (m : Int) = (m : Int) := by rw [IntKind.wrap_i64]; omega
  have hjm : (R : Int).tmod 4 = (j : Int) := by rw [Int.tmod_eq_emod_of_nonneg (by omega)]; omega
  have hjw : IntKind.i64.wrap (j : Int) = (j : Int) := by rw [IntKind.wrap_i64]; omega
  have ex : pkVer xs p = if j ≠ 0 ∨ m < 1 ∨ 8 < m then .error 3 else if (versL xs p m).all (fun x => decide (x ≠ 0)) = true then .ok (versL xs p m) else .error 3 := by
    unfold pkVer
    rw [show xs.length - p = R by omega, hm, hj]
  by_cases hbad : j ≠ 0 ∨ m < 1 ∨ 8 < m
  · have e : pkVer xs p = .error 3 := by rw [ex, if_pos hbad]
    have HE : Hid _ := And.intro e True.intro
    clear ex e h hl hB hk hR hlen hm hj hRi
    by_cases a1 : j = 0
    · have b1 : ((j : Int) != 0) = false := by simp [a1]
      by_cases a2 : m < 1
      · have b2 : decide ((m : Int) < 1) = true := decide_eq_true (by omega)
        clear hbad a1 a2
        go_enter Tryz.func81, Tryz.ntmps81
        go_wp2_with fail
        go_at_call 79
        refine hr.mono ?_
        rintro e w1 ⟨rfl, hw1⟩
        rw [hw1]; clear hw1 w1
        go_wp2_with fail
        go_at_call 79
        refine hr2.mono ?_
        rintro e w1 ⟨rfl, hw1⟩
        rw [hw1]; clear hw1 w1
        go_wp2_with fail
        go_at_call 55
        refine (leaveIf_t _ 3 _).mono ?_
        rintro e w2 ⟨rfl, hw2⟩
        rw [hw2]; clear hw2 w2
        go_wp2_with fail
        exact ⟨rfl, (Chg.refl _ w).drew.drew, Or.inl ⟨3, HE.out.1, rfl⟩⟩
      · have b2 : decide ((m : Int) < 1) = false := decide_eq_false (by omega)
        have b3 : decide ((8 : Int) < (m : Int)) = true := decide_eq_true (by omega)
        clear hbad a1 a2
        go_enter Tryz.func81, Tryz.ntmps81
        go_wp2_with fail
        go_at_call 79
        refine hr.mono ?_
        rintro e w1 ⟨rfl, hw1⟩
        rw [hw1]; clear hw1 w1
        go_wp2_with fail
        go_at_call 79
        refine hr2.mono ?_
        rintro e w1 ⟨rfl, hw1⟩
        rw [hw1]; clear hw1 w1
        go_wp2_with fail
        go_at_call 55
        refine (leaveIf_t _ 3 _).mono ?_
        rintro e w2 ⟨rfl, hw2⟩
        rw [hw2]; clear hw2 w2
        go_wp2_with fail
        exact ⟨rfl, (Chg.refl _ w).drew.drew, Or.inl ⟨3, HE.out.1, rfl⟩⟩
    · have b1 : ((j : Int) != 0) = true := by simp [a1]
      clear hbad a1
      go_enter Tryz.func81, Tryz.ntmps81
      go_wp2_with fail
      go_at_call 79
      refine hr.mono ?_
      rintro e w1 ⟨rfl, hw1⟩
      rw [hw1]; clear hw1 w1
      go_wp2_with fail
      go_at_call 79
      refine hr2.mono ?_
      rintro e w1 ⟨rfl, hw1⟩
      rw [hw1]; clear hw1 w1
      go_wp2_with fail
      go_at_call 55
      refine (leaveIf_t _ 3 _).mono ?_
      rintro e w2 ⟨rfl, hw2⟩
      rw [hw2]; clear hw2 w2
      go_wp2_with fail
      exact ⟨rfl, (Chg.refl _ w).drew.drew, Or.inl ⟨3, HE.out.1, rfl⟩⟩
  rw [if_neg hbad] at ex
  have hj0 : j = 0 := by omega
  have hRm : R = 4 * m := by omega
  have b1 : ((j : Int) != 0) = false := by simp [hj0]
  have b2 : decide ((m : Int) < 1) = false := decide_eq_false (by omega)
  have b3 : decide ((8 : Int) < (m : Int)) = false := decide_eq_false (by omega)
  have hm8 : m ≤ 8 := by omega
  obtain ⟨i0, hi, hz0, hz1, hz2⟩ := info_parts infoI64v
  have x0 : w.drew.drew.cell? ⟨pb, 0, none⟩ = _ := hk.c_f
  have y0 : w.drew.drew.frozen? ⟨pb, 0, none⟩ = false := hk.fr 0
  have k0 : pkB (w.setCell ⟨pb, 0, none⟩ (.int .i64 5)).drew.drew pb 5 v vd vs vt (.slice none 0 0) na fin := hk.set_f 5
  have r0 : rdB (w.setCell ⟨pb, 0, none⟩ (.int .i64 5)).drew.drew g (.slice (some ⟨b, off, none⟩) n cap) p := h.other hgp
  have C0 : Chg (SG g pb) w (w.setCell ⟨pb, 0, none⟩ (.int .i64 5)).drew.drew := ((Chg.refl (SG g pb) w).setP 0 (.int .i64 5)).drew.drew
  have hS : ∀ q, SG g pb q → ¬ q = b := fun q hq e => by rcases hq with h | h; exact hgb (by omega); exact hbp (by omega)
  have HW : Hid _ := And.intro ex (And.intro hl (And.intro hB (And.intro hgb (And.intro hgp (And.intro hbp (And.intro hn (And.intro hR (And.intro hRm (And.intro hm8 (And.intro (And.intro hk.lt h.lt) (And.intro k0 (And.intro r0 (And.intro C0 hS)))))))))))))
  clear ex hl hB hk h hlen hm hj hRi hbad hj0 k0 r0 C0 hS hp hm8 hRm hR
  go_enter Tryz.func81, Tryz.ntmps81
  go_wp2_with fail
  go_at_call 79
  refine hr.mono ?_
  rintro e w1 ⟨rfl, hw1⟩
  rw [hw1]; clear hw1 w1
  go_wp2_with fail
  go_at_call 79
  refine hr2.mono ?_
  rintro e w1 ⟨rfl, hw1⟩
  rw [hw1]; clear hw1 w1
  go_wp2_with fail
  go_at_call 55
  refine (leaveIf_f _ 3 _).mono ?_
  rintro e w2 ⟨rfl, hw2⟩
  rw [hw2]; clear hw2 w2
  clear hr hr2 b1 b2 b3 hq hjm hqw hjw
  go_wp2_with fail
  clear x0 y0
  go_loopg [28] m (fun q i wr => ∃ k : Nat, k ≤ m ∧ q = m - k ∧ i = .int .i64 (k : Int) ∧ ∃ vv, rdB wr g (.slice (some ⟨b, off, none⟩) n cap) ((p + 4 * k : Nat) : Int) ∧ pkB wr pb 5 v vd vs vt vv na fin ∧ wr.ownsRow w.heap.size 3 1 vv k ((versL xs p k).map (Value.int .i64)) ∧ Chg (SG g pb) w wr ∧ ∀ j, j < k → vals (sub xs (p + 4 * j) 4) ≠ 0)
  case atStart => exact ⟨0, by omega, by omega, rfl, _, HW.out.2.2.2.2.2.2.2.2.2.2.2.2.1, HW.out.2.2.2.2.2.2.2.2.2.2.2.1, World.ownsRow_nil _ _ _ _, HW.out.2.2.2.2.2.2.2.2.2.2.2.2.2.1, fun j hj => by omega⟩
  case round =>
    obtain ⟨k, hk, hq, rfl, vv, hrd, hpk, hown, hch, hnz⟩ := hrel
    by_cases hlt : k < m
    · have hli := HW.out.2.1.chg hch (fun hh => HW.out.2.2.2.2.2.2.2.2.2.2.2.2.2.2 b hh rfl)
      have hnum := number_ok g b off n cap (p + 4 * k) 4 xs wr hrd hli HW.out.2.2.1 HW.out.2.2.2.1 HW.out.2.2.2.2.2.2.1 (by have h1 := HW.out.2.2.2.2.2.2.2.1; have h2 := HW.out.2.2.2.2.2.2.2.2.1; omega) (by decide) (by decide)
      obtain ⟨x, ex⟩ : ∃ x, x = vals (sub xs (p + 4 * k) 4) := ⟨_, rfl⟩
      rw [← ex] at hnum
      have hlt' : decide ((k : Int) < (m : Int)) = true := decide_eq_true (by omega)
      have HN : Hid _ := And.intro hlt (And.intro hk hq)
      have HI : Hid _ := And.intro ex (And.intro hrd (And.intro hpk (And.intro hown (And.intro hch hnz))))
      clear ex hrd hpk hown hch hnz hli
      by_cases hx : x = 0
      · have hx' : (x == 0) = true := by simp [hx]
        go_wp2_with fail
        go_at_call 57
        refine hnum.mono ?_
        rintro e w1 ⟨rfl, r1, c1⟩
        go_wp2_with fail
        go_at_call 55
        refine (leaveIf_t _ 3 _).mono ?_
        rintro e w2 ⟨rfl, hw2⟩
        rw [hw2]; clear hw2 w2
        go_wp2_with fail
        refine ⟨rfl, HI.out.2.2.2.2.1.trans c1.toG, Or.inl ⟨3, ?_, rfl⟩⟩
        rw [HW.out.1, if_neg]
        rw [versL_all]
        intro hall
        exact hall k HN.out.1 (by rw [← HI.out.1]; exact hx)
      · have hx' : (x == 0) = false := by simp [hx]
        go_wp2_with fail
        go_at_call 57
        refine hnum.mono ?_
        rintro e w1 ⟨rfl, r1, c1⟩
        have k1 := HI.out.2.2.1.chg c1 HW.out.2.2.2.2.1
        have x1 := k1.c_vv
        have y1 := k1.fr 8
        have hne : ∀ q, vv.ownBlock = some q → ¬ q = g := fun q hq e => by have h1 := (HI.out.2.2.2.1.lt q hq).1; have h2 := HW.out.2.2.2.2.2.2.2.2.2.2.1.2; omega
        have o1 := c1.owns HI.out.2.2.2.1 hne
        have h1s : w.heap.size ≤ w1.heap.size := Nat.le_trans HI.out.2.2.2.2.1.size c1.size
        have HJ : Hid _ := And.intro r1 (And.intro c1 (And.intro k1 h1s))
        clear r1 c1 k1 hne h1s
        go_wp2_with (first
          | (go_at_call 55; refine (leaveIf_f _ 3 _).mono ?_; rintro e w2 ⟨rfl, hw2⟩; rw [hw2]; clear hw2 w2)
          | (at_builtin; refine wpList_append_own _ rfl _ _ 33 rfl w.heap.size 3 i0 (.int .i64 0) 1 8 Tryz.underlying33 hi hz0 hz1 hz2 rfl (by decide) _ _ _ rfl (o1.alloc _) ⟨w1.heap.size, 0, none⟩ 1 1 [.int .i64 x] rfl rfl ?c1 ?c2 ?c3 ?c4 ?c5 ?_))
        case c1 =>
          intro j u hj
          match j, hj with
          | 0, hj => simp at hj; subst hj; simp [Addr.add]
        case c2 => intro u hu; simp at hu; subst hu; rfl
        case c3 => unfold maxLen; have := HN.out.1; have := HW.out.2.2.2.2.2.2.2.2.2.1; omega
        case c4 => have := HN.out.1; have := HW.out.2.2.2.2.2.2.2.2.2.1; omega
        case c5 => have := HJ.out.2.2.2; simp; omega
        intro v' w2 hown2 hgrow _
        have c2 : Chg (fun q => vv.ownBlock = some q) w1 w2 := (Chg.of_below ((Below.refl _ _).alloc (Nat.le_refl _) _)).trans (grown_chg hgrow)
        have hnp : ∀ q, q < w.heap.size → ¬ vv.ownBlock = some q := fun q hq e => by have h1 := (HI.out.2.2.2.1.lt q e).1; omega
        have r2 := HJ.out.1.chg c2 (hnp g HW.out.2.2.2.2.2.2.2.2.2.2.1.2)
        have k2 := HJ.out.2.2.1.chg c2 (hnp pb HW.out.2.2.2.2.2.2.2.2.2.2.1.1)
        have x2 := k2.c_vv
        have y2 := k2.fr 8
        have k3 := k2.set_vv v'
        have r3 := r2.other (i := 8) (u := v') HW.out.2.2.2.2.1
        have hn2 : ∀ q, v'.ownBlock = some q → some q ≠ some pb := fun q hq e => by have h1 := (hown2.lt q hq).1; have h2 := HW.out.2.2.2.2.2.2.2.2.2.2.1.1; have := Option.some.inj e; omega
        have o3 := (Only.setCell (w := w2) ⟨pb, 8, none⟩ v').owns hown2 hn2
        have c3 : Chg (SG g pb) w (w2.setCell ⟨pb, 8, none⟩ v') := by
          refine Chg.setP ?_ 8 v'
          have cA := HI.out.2.2.2.2.1.trans HJ.out.2.1.toG
          exact ⟨c2.os.trans cA.os, c2.tape.trans cA.tape, c2.output.trans cA.output, Nat.le_trans cA.size c2.size, fun q hq hs => (c2.block q (Nat.lt_of_lt_of_le hq cA.size) (hnp q hq)).trans (cA.block q hq hs)⟩
        rw [HI.out.1, ← List.map_singleton, ← List.map_append, ← versL_succ] at o3
        obtain ⟨va, vp, ev⟩ := (row_of_owns (k := .i64) o3).form
        have HR : Hid _ := And.intro r3 (And.intro k3 (And.intro o3 c3))
        clear c2 r2 k2 k3 r3 hn2 o3 c3 hown2 hgrow o1 hnp
        subst ev
        go_wp2_with fail
        go_roundg (m - (k + 1))
        case measure => have := HN.out; omega
        case rel =>
          refine ⟨k + 1, Nat.succ_le_of_lt HN.out.1, rfl, num_succ k (by have h1 := HN.out.1; have h2 := HW.out.2.2.2.2.2.2.2.2.2.1; omega), _, HR.out.1, HR.out.2.1, HR.out.2.2.1, HR.out.2.2.2, fun j hj => ?_⟩
          by_cases hjk : j = k
          · subst hjk; rw [← HI.out.1]; exact hx
          · exact HI.out.2.2.2.2.2 j (by omega)
    · obtain rfl : k = m := by omega
      have hlt' : decide ((k : Int) < (k : Int)) = false := decide_eq_false (by omega)
      have x1 := hrd.c1
      have x2 := hpk.c_fin
      have y2 := hpk.fr 10
      have k3 := hpk.set_fin ((p + 4 * k : Nat) : Int)
      have hne : ∀ q, vv.ownBlock = some q → some q ≠ some pb := fun q hq e => by have h1 := (hown.lt q hq).1; have h2 := HW.out.2.2.2.2.2.2.2.2.2.2.1.1; have := Option.some.inj e; omega
      have o3 := (Only.setCell (w := wr) ⟨pb, 10, none⟩ (.int .i64 ((p + 4 * k : Nat) : Int))).owns hown hne
      have c3 := hch.setP 10 (.int .i64 ((p + 4 * k : Nat) : Int))
      have hpn : p + 4 * k = n := by have h1 := HW.out.2.2.2.2.2.2.2.1; have h2 := HW.out.2.2.2.2.2.2.2.2.1; omega
      rw [hpn] at x1 k3 o3 c3
      have HI : Hid _ := And.intro hnz (And.intro k3 (And.intro o3 c3))
      clear hrd hpk hown hch hnz k3 o3 c3 hne hpn
      go_wp2_with fail
      go_end0
      refine ⟨HI.out.2.2.2, Or.inr ⟨versL xs p k, vv, ?_, rfl, HI.out.2.1, ?_, ?_⟩⟩
      · rw [HW.out.1, if_pos ((versL_all xs p k).2 HI.out.1)]
      · rw [versL_length]; exact HI.out.2.2.1
      · rw [versL_length]; exact HW.out.2.2.2.2.2.2.2.2.2.1
end Go.Proofs.YtoalillggafnpaaGreatDoor

namespace Go.Proofs.YtoalillggafnpaaGreatDoor
open Go.RowKit
set_option linter.unusedVariables false
set_option linter.unusedSimpArgs false

/-- The table of the forms of long heads, as the program's text lays it. -/
structure TabL (w : World) : Prop where
  t0 : w.cell? ⟨0, 0, none⟩ = some (.int .i64 1)
  t1 : w.cell? ⟨0, 1, none⟩ = some (.int .i64 0)
  t2 : w.cell? ⟨0, 2, none⟩ = some (.int .i64 2)
  t3 : w.cell? ⟨0, 3, none⟩ = some (.int .i64 3)
theorem TabL.below {w w' : World} {B : Nat} (h : TabL w) (hb : Below B w w') (h0 : 0 < B) : TabL w' :=
  ⟨(hb.cell (p := ⟨0, 0, none⟩) h0).trans h.t0, (hb.cell (p := ⟨0, 1, none⟩) h0).trans h.t1, (hb.cell (p := ⟨0, 2, none⟩) h0).trans h.t2, (hb.cell (p := ⟨0, 3, none⟩) h0).trans h.t3⟩
theorem TabL.lt {w : World} (h : TabL w) : 0 < w.heap.size := by
  have := h.t0
  refine Nat.lt_of_not_le (fun hn => ?_)
  have e : w.heap[0]? = none := Array.getElem?_eq_none (by omega)
  simp [World.cell?, e] at this
theorem infoI : (Tryz.prog.info? 3).map (fun i => (i.zero, i.size, i.bytes)) = some (some (.int .i64 0), 1, 8) := by kernel_rfl
theorem idxL (j : Nat) (a : Int) (w : World) (hj : j < 4) (ha : (#[Value.int .i64 1, .int .i64 0, .int .i64 2, .int .i64 3])[j]? = some (.int .i64 a)) : (Instr.index 85 (.agg #[.int .i64 1, .int .i64 0, .int .i64 2, .int .i64 3]) (.int .i64 (j : Int))).run Tryz.prog w = .ok (.int .i64 a) w := by
  obtain ⟨i0, hi, hz0, hz1, hz2⟩ := info_parts infoI
  have hu := run_underlying (P := Tryz.prog) (w := w) Tryz.underlying85
  rcases (show j = 0 ∨ j = 1 ∨ j = 2 ∨ j = 3 by omega) with rfl | rfl | rfl | rfl <;> (simp at ha; subst ha; simp [Instr.index, hu, sizeOf, typeInfo, hi, hz1, asInt, asIntOf, part])
set_option maxRecDepth 20000 in
set_option maxHeartbeats 1000000 in
theorem firstRetry (w : World) (h : TabL w) : Calls Tryz.prog 31 #[.int .i64 3] w fun e w' => e = .returned (.int .u8 240) ∧ w' = w := by
  obtain ⟨h0, h1, h2, h3⟩ := h
  have x0 : ∀ w, (Instr.index 85 (.agg #[.int .i64 1, .int .i64 0, .int .i64 2, .int .i64 3]) (.int .i64 0)).run Tryz.prog w = .ok (.int .i64 1) w := fun w => idxL 0 1 w (by decide) rfl
  have x1 : ∀ w, (Instr.index 85 (.agg #[.int .i64 1, .int .i64 0, .int .i64 2, .int .i64 3]) (.int .i64 1)).run Tryz.prog w = .ok (.int .i64 0) w := fun w => idxL 1 0 w (by decide) rfl
  have x2 : ∀ w, (Instr.index 85 (.agg #[.int .i64 1, .int .i64 0, .int .i64 2, .int .i64 3]) (.int .i64 2)).run Tryz.prog w = .ok (.int .i64 2) w := fun w => idxL 2 2 w (by decide) rfl
  have x3 : ∀ w, (Instr.index 85 (.agg #[.int .i64 1, .int .i64 0, .int .i64 2, .int .i64 3]) (.int .i64 3)).run Tryz.prog w = .ok (.int .i64 3) w := fun w => idxL 3 3 w (by decide) rfl
  go_enter Tryz.func31, Tryz.ntmps31
  go_wp2_with fail
  refine wp_loop_rounds 4 ?_
  rw [rounds_succ]
  go_wp2_with fail
  rw [rounds_succ]
  go_wp2_with fail
  rw [rounds_succ]
  go_wp2_with fail
  rw [rounds_succ]
  go_wp2
  go_ret
  exact ⟨rfl, rfl⟩
end Go.Proofs.YtoalillggafnpaaGreatDoor

namespace Go.Proofs.YtoalillggafnpaaGreatDoor
open Go.RowKit
set_option linter.unusedVariables false

/-- What can be told of a packet without a key. -/
structure PK where
  f : Int
  v : Int
  d : List Int
  s : List Int
  t : List Int
  vers : List Int
  na : Nat
  fin : Nat
def lform (f : Int) : Int := if f < 192 then 0 else if f < 208 then 1 else if f < 224 then 0 else if f < 240 then 2 else 3
def pkIni (xs : List Int) (v : Int) (d s : List Int) (p : Nat) : Except Int PK :=
  if varOK xs p then
    if 64 < varV xs p then .error 3
    else if xs.length < varN xs p + (varV xs p).toNat then .error 2
    else match pkBeh xs (varN xs p + (varV xs p).toNat) with
      | .error c => .error c
      | .ok (a, q) => .ok ⟨1, v, d, s, sub xs (varN xs p) (varV xs p).toNat, [], a, q⟩
  else .error 2
def pkTail (xs : List Int) (first v : Int) (d s : List Int) (p : Nat) : Except Int PK :=
  if v = 0 then
    if first ≠ 128 then .error 3
    else match pkVer xs p with
      | .error c => .error c
      | .ok L => .ok ⟨5, v, d, s, [], L, 0, xs.length⟩
  else if lform first = 3 then
    match pkRet xs p with
      | .error c => .error c
      | .ok t => .ok ⟨3, v, d, s, t, [], 0, xs.length⟩
  else if lform first = 1 then pkIni xs v d s p
  else if lform first = 2 then
    match pkBeh xs p with
      | .error c => .error c
      | .ok (a, q) => .ok ⟨2, v, d, s, [], [], a, q⟩
  else .error 3
def pkLong (xs : List Int) (first : Int) : Except Int PK :=
  if xs.length < 5 then .error 2
  else match pkCid xs 5 with
    | .error c => .error c
    | .ok (d, p1) => match pkCid xs p1 with
      | .error c => .error c
      | .ok (s, p2) => pkTail xs first (vals (sub xs 1 4)) d s p2
theorem pkLong_2 {xs : List Int} {first c : Int} (h : ¬ xs.length < 5) (h1 : pkCid xs 5 = .error c) : pkLong xs first = .error c := by unfold pkLong; rw [if_neg h, h1]
theorem pkLong_3 {xs d : List Int} {first c : Int} {p1 : Nat} (h : ¬ xs.length < 5) (h1 : pkCid xs 5 = .ok (d, p1)) (h2 : pkCid xs p1 = .error c) : pkLong xs first = .error c := by unfold pkLong; rw [if_neg h, h1]; simp only; rw [h2]
theorem pkLong_4 {xs d s : List Int} {first : Int} {p1 p2 : Nat} (h : ¬ xs.length < 5) (h1 : pkCid xs 5 = .ok (d, p1)) (h2 : pkCid xs p1 = .ok (s, p2)) : pkLong xs first = pkTail xs first (vals (sub xs 1 4)) d s p2 := by unfold pkLong; rw [if_neg h, h1]; simp only; rw [h2]
set_option maxRecDepth 20000 in
theorem longFormC (f : Int) (w : World) (hL : TabL w) (h0 : 0 ≤ f) (h1 : f < 256) : Calls Tryz.prog 82 #[.int .u8 f] w fun e w' => e = .returned (.int .i64 (lform f)) ∧ w' = w := by
  obtain ⟨t0, t1, t2, t3⟩ := hL
  by_cases a : f < 192
  · have e : lform f = 0 := by unfold lform; rw [if_pos a]
    rw [e]
    replace a : decide (f < 192) = true := decide_eq_true a
    clear e h0 h1
    go_enter Tryz.func82, Tryz.ntmps82
    go_wp2
    go_ret
    exact ⟨rfl, rfl⟩
  have a' : decide (f < 192) = false := decide_eq_false a
  have hw : IntKind.u8.wrap (f - 192) = f - 192 := by rw [IntKind.wrap_u8]; omega
  obtain ⟨j, hj, hj4⟩ : ∃ j : Nat, (f - 192) / 16 = (j : Int) ∧ j < 4 := ⟨((f - 192) / 16).toNat, by omega, by omega⟩
  have hq : (f - 192).tdiv 16 = (j : Int) := by rw [Int.tdiv_eq_ediv_of_nonneg (by omega)]; exact hj
  have hw2 : IntKind.u8.wrap (j : Int) = (j : Int) := by rw [IntKind.wrap_u8]; omega
  rcases (show j = 0 ∨ j = 1 ∨ j = 2 ∨ j = 3 by omega) with rfl | rfl | rfl | rfl
  · have e : lform f = 1 := by unfold lform; rw [if_neg a, if_pos (by omega)]
    rw [e]
    clear a e h0 h1 hj hj4
    go_enter Tryz.func82, Tryz.ntmps82
    go_wp2
    go_ret
    exact ⟨rfl, rfl⟩
  · have e : lform f = 0 := by unfold lform; rw [if_neg a, if_neg (by omega), if_pos (by omega)]
    rw [e]
    clear a e h0 h1 hj hj4
    go_enter Tryz.func82, Tryz.ntmps82
    go_wp2
    go_ret
    exact ⟨rfl, rfl⟩
  · have e : lform f = 2 := by unfold lform; rw [if_neg a, if_neg (by omega), if_neg (by omega), if_pos (by omega)]
    rw [e]
    clear a e h0 h1 hj hj4
    go_enter Tryz.func82, Tryz.ntmps82
    go_wp2
    go_ret
    exact ⟨rfl, rfl⟩
  · have e : lform f = 3 := by unfold lform; rw [if_neg a, if_neg (by omega), if_neg (by omega), if_neg (by omega)]
    rw [e]
    clear a e h0 h1 hj hj4
    go_enter Tryz.func82, Tryz.ntmps82
    go_wp2
    go_ret
    exact ⟨rfl, rfl⟩
end Go.Proofs.YtoalillggafnpaaGreatDoor

namespace Go.Proofs.YtoalillggafnpaaGreatDoor
open Go.RowKit
set_option linter.unusedVariables false

theorem Tab.chg {w w' : World} {S : Nat → Prop} (h : Tab w) (hc : Chg S w w') (hs : ¬ S 2) : Tab w' := by
  have e := hc.block _ h.lt hs
  exact ⟨by rw [← h.c0]; simp only [World.cell?, e], by rw [← h.c1]; simp only [World.cell?, e], by rw [← h.c2]; simp only [World.cell?, e], by rw [← h.c3]; simp only [World.cell?, e]⟩
theorem TabL.chg {w w' : World} {S : Nat → Prop} (h : TabL w) (hc : Chg S w w') (hs : ¬ S 0) : TabL w' := by
  have e := hc.block _ h.lt hs
  exact ⟨by rw [← h.t0]; simp only [World.cell?, e], by rw [← h.t1]; simp only [World.cell?, e], by rw [← h.t2]; simp only [World.cell?, e], by rw [← h.t3]; simp only [World.cell?, e]⟩
theorem Chg.ownsG {g pb B e n : Nat} {w w' : World} {v : Value} {xs : List Value} (h : Chg (SG g pb) w w') (ho : w.ownsRow B e 1 v n xs) (hg : g < B) (hp : pb < B) : w'.ownsRow B e 1 v n xs :=
  h.owns ho fun k hk hs => by have h1 := (ho.lt k hk).1; rcases hs with h | h <;> omega
theorem apart_of {w1 w2 : World} {b1 b2 e1 e2 n1 n2 : Nat} {v1 v2 : Value} {xs1 xs2 : List Value} (h1 : w1.ownsRow b1 e1 1 v1 n1 xs1) (h2 : w2.ownsRow b2 e2 1 v2 n2 xs2) (hb : w1.heap.size ≤ b2) : Apart v1 v2 :=
  fun g hg e => owns_apart h1 h2 hb g e hg.symm
theorem apart_nil (v : Value) : Apart v (.slice none 0 0) := fun g _ e => by cases e
theorem nil_apart (v : Value) : Apart (.slice none 0 0) v := fun g e => by cases e
/-- What is peeked, in the block pb, with rows of the call's own. -/
def LRes (base : Nat) (w' : World) (pb : Nat) (K : PK) : Prop := ∃ vd vs vt vv, pkB w' pb K.f K.v vd vs vt vv K.na K.fin ∧ HOwn w' base vd vs vt ⟨K.f, K.v, K.d, K.s, K.t, 0, 0, 0⟩ ∧
  w'.ownsRow base 3 1 vv K.vers.length (K.vers.map (Value.int .i64))
theorem sizeS (w : World) (a : Addr) (u : Value) : (w.setCell a u).heap.size = w.heap.size := by simp [World.setCell]
set_option maxRecDepth 20000 in
set_option maxHeartbeats 8000000 in
theorem longRC (g pb b off n cap : Nat) (xs : List Int) (first : Int) (w : World) (ht : Tab w) (hL : TabL w) (h : rdB w g (.slice (some ⟨b, off, none⟩) n cap) 1) (hk : pkB w pb 0 0 (.slice none 0 0) (.slice none 0 0) (.slice none 0 0) (.slice none 0 0) 0 0)
    (hl : Lies w b off n cap xs) (hB : Bytes xs) (hgb : b ≠ g) (hgp : pb ≠ g) (hbp : b ≠ pb) (hn : n ≤ 65536) (hp : 1 ≤ n) (hf0 : 0 ≤ first) (hf1 : first < 256) (hS1 : ¬ SG g pb 2) (hS2 : ¬ SG g pb 0) :
    Calls Tryz.prog 59 #[.pointer (some ⟨pb, 0, none⟩), .pointer (some ⟨g, 0, none⟩), .int .u8 first] w fun e w' => Chg (SG g pb) w w' ∧ ((∃ c, pkLong xs first = .error c ∧ e = .panicked [leftP c]) ∨
      ∃ K, pkLong xs first = .ok K ∧ e = .returned (.tuple #[]) ∧ LRes w.heap.size w' pb K) := by
  have hlen := hl.len
  have hbS : ¬ SG g pb b := fun hh => by rcases hh with hh | hh; exact hgb hh; exact hbp hh
  by_cases h5 : n < 5
  · have hc := number_no g (some ⟨b, off, none⟩) n cap 1 4 w h ⟨by omega, by omega⟩ (by omega) (by omega)
    have e : pkLong xs first = .error 2 := by unfold pkLong; rw [if_pos (by omega)]
    have HE : Hid _ := And.intro e True.intro
    clear h hl hB e hlen hk ht hL
    go_enter Tryz.func59, Tryz.ntmps59
    go_wp2_with fail
    go_at_call 57
    refine hc.mono ?_
    rintro e w1 ⟨rfl, c1⟩
    go_wp2_with fail
    exact ⟨rfl, c1.toG, Or.inl ⟨2, HE.out.1, rfl⟩⟩
  have hc := number_ok g b off n cap 1 4 xs w h hl hB hgb hn (by omega) (by decide) (by decide)
  have h5' : ¬ xs.length < 5 := by omega
  have HN : Hid _ := And.intro hlen (And.intro hgb (And.intro hgp (And.intro hbp (And.intro hn (And.intro h5' (And.intro hbS (And.intro hS1 (And.intro hS2 (And.intro hf0 hf1)))))))))
  have HM : Hid _ := And.intro ht (And.intro hL (And.intro hk (And.intro hl (And.intro hB (And.intro h.lt hk.lt)))))
  have hvb := numK_lt xs hB 1 4 (by decide)
  obtain ⟨V, hV⟩ : ∃ V, V = vals (sub xs 1 4) := ⟨_, rfl⟩
  rw [← hV] at hc hvb
  have HV : Hid _ := And.intro hV hvb
  clear h hl hB hlen hk ht hL hV hvb hgb hgp hbp hn h5' hbS hS1 hS2 hf0 hf1 h5 hp
  go_enter Tryz.func59, Tryz.ntmps59
  go_wp2_with fail
  go_at_call 57
  refine hc.mono ?_
  rintro e w1 ⟨rfl, r1, c1⟩
  clear hc
  have k1 := HM.out.2.2.1.chg c1 HN.out.2.2.1
  have x1 := k1.c_v
  have y1 := k1.fr 1
  have k2 := k1.set_v V
  have r2 := r1.other (i := 1) (u := .int .i64 V) HN.out.2.2.1
  have c2 := (c1.toG (pb := pb)).setP 1 (.int .i64 V)
  have l2 := HM.out.2.2.2.1.chg c2 HN.out.2.2.2.2.2.2.1
  have hcid := cidC g b off n cap (1 + 4) xs _ r2 l2 HM.out.2.2.2.2.1 HN.out.2.1 HN.out.2.2.2.2.1 (by have h1 := HN.out.1; have h2 := HN.out.2.2.2.2.2.1; omega)
  have HA : Hid _ := And.intro c2 k2
  clear k1 k2 r2 c2 l2 r1 c1
  go_wp2_with fail
  go_at_call 80
  refine hcid.mono ?_
  clear hcid x1 y1
  rintro e w2 ⟨c3, ⟨c, hce, rfl⟩ | ⟨d, p1, vd, hce, rfl, o3, r3, hp1, hq1, hd8⟩⟩
  · go_wp2_with fail
    exact ⟨rfl, HA.out.1.trans c3.toG, Or.inl ⟨c, pkLong_2 HN.out.2.2.2.2.2.1 hce, rfl⟩⟩
  have cA := HA.out.1.trans c3.toG
  have k3 := HA.out.2.chg c3 HN.out.2.2.1
  have x3 := k3.c_vd
  have y3 := k3.fr 2
  have k4 := k3.set_vd vd
  have r4 := r3.other (i := 2) (u := vd) HN.out.2.2.1
  have c4 := cA.setP 2 vd
  have l4 := HM.out.2.2.2.1.chg c4 HN.out.2.2.2.2.2.2.1
  have hcid := cidC g b off n cap p1 xs _ r4 l4 HM.out.2.2.2.2.1 HN.out.2.1 HN.out.2.2.2.2.1 hq1
  have ob : (w1.setCell ⟨pb, 1, none⟩ (.int .i64 V)).heap.size ≤ w2.heap.size := c3.size
  have o4 : w2.ownsRow w.heap.size 5 1 vd d.length (d.map (Value.int .u8)) := owns_mono o3 HA.out.1.size
  obtain ⟨va, vp, ev⟩ := (row_of_owns o3).form
  have HC : Hid _ := And.intro c4 (And.intro k4 (And.intro o4 (And.intro hce (And.intro hp1 (And.intro hq1 hd8)))))
  clear c3 hce o3 r3 hp1 hq1 hd8 cA k3 k4 r4 c4 l4 ob o4
  subst ev
  go_wp2_with fail
  go_at_call 80
  refine hcid.mono ?_
  clear hcid x3 y3
  rintro e w3 ⟨c5, ⟨c, hce, rfl⟩ | ⟨s, p2, vs, hce, rfl, o5, r5, hp2, hq2, hs8⟩⟩
  · go_wp2_with fail
    exact ⟨rfl, HC.out.1.trans c5.toG, Or.inl ⟨c, pkLong_3 HN.out.2.2.2.2.2.1 HC.out.2.2.2.1 hce, rfl⟩⟩
  have eL : pkLong xs first = pkTail xs first V d s p2 := by rw [HV.out.1]; exact pkLong_4 HN.out.2.2.2.2.2.1 HC.out.2.2.2.1 hce
  have cB := HC.out.1.trans c5.toG
  have k5 := HC.out.2.1.chg c5 HN.out.2.2.1
  have x5 := k5.c_vs
  have y5 := k5.fr 3
  have k6 := k5.set_vs vs
  have r6 := r5.other (i := 3) (u := vs) HN.out.2.2.1
  have c6 := cB.setP 3 vs
  have hgl := HM.out.2.2.2.2.2.1
  have hpl := HM.out.2.2.2.2.2.2
  have cC := ((c5.toG (pb := pb)).setP 3 vs)
  have od := cC.ownsG (((Only.setCell (w := w2) ⟨pb, 2, none⟩ (.slice va d.length vp)).owns HC.out.2.2.1 (fun q hq e => by have h1 := (HC.out.2.2.1.lt q hq).1; have e' : q = pb := Option.some.inj e; omega))) hgl hpl
  have os : (w3.setCell ⟨pb, 3, none⟩ vs).ownsRow w.heap.size 5 1 vs s.length (s.map (Value.int .u8)) := (Only.setCell (w := w3) ⟨pb, 3, none⟩ vs).owns (owns_mono o5 HC.out.1.size) (fun q hq e => by have h1 := (o5.lt q hq).1; have h2 := HC.out.1.size; have e' : q = pb := Option.some.inj e; omega)
  have ap : Apart (.slice va d.length vp) vs := apart_of HC.out.2.2.1 o5 (by rw [sizeS]; exact Nat.le_refl _)
  have hs3 : w.heap.size ≤ (w3.setCell ⟨pb, 3, none⟩ vs).heap.size := c6.size
  obtain ⟨wa, wp, ew⟩ := (row_of_owns o5).form
  have z6 := k6.c_v
  have HD : Hid _ := And.intro eL (And.intro c6 (And.intro k6 (And.intro r6 (And.intro od (And.intro os (And.intro ap (And.intro hq2 (And.intro hgl hpl))))))))
  clear c5 hce o5 r5 hp2 hq2 hs8 cB k5 k6 r6 c6 cC od os ap eL hs3 hgl hpl
  subst ew
  by_cases hv0 : V = 0
  · have hv0' : (V == 0) = true := by simp [hv0]
    have hv1 : V = 0 := hv0
    by_cases h128 : first = 128
    · have hfn : (first != 128) = false := by simp [h128]
      have hver := versRC g pb b off n cap p2 xs 0 V _ _ _ 0 0 _ HD.out.2.2.2.1 HD.out.2.2.1 (HM.out.2.2.2.1.chg HD.out.2.1 HN.out.2.2.2.2.2.2.1) HM.out.2.2.2.2.1 HN.out.2.1 HN.out.2.2.1 HN.out.2.2.2.1 HN.out.2.2.2.2.1 HD.out.2.2.2.2.2.2.2.1
      have HZ : Hid _ := And.intro hv1 h128
      clear hv0 hv1 h128
      go_wp2_with fail
      go_at_call 55
      refine (leaveIf_f _ 3 _).mono ?_
      rintro e w4 ⟨rfl, hw4⟩
      rw [hw4]; clear hw4 w4
      go_wp2_with fail
      go_at_call 81
      refine hver.mono ?_
      rintro e w4 ⟨c7, ⟨c, hce, rfl⟩ | ⟨Lv, vv, hce, rfl, k7, o7, hL8⟩⟩
      · go_wp2_with fail
        refine ⟨rfl, HD.out.2.1.trans c7, Or.inl ⟨c, ?_, rfl⟩⟩
        rw [HD.out.1]; unfold pkTail; rw [if_pos HZ.out.1, if_neg (by rw [HZ.out.2]; decide), hce]
      · go_wp2_with fail
        first | go_end0 | refine bodyPost_ret (results_none rfl _ _ _) rfl ?_
        refine ⟨HD.out.2.1.trans c7, Or.inr ⟨⟨5, V, d, s, [], Lv, 0, xs.length⟩, ?_, rfl, ?_⟩⟩
        · rw [HD.out.1]; unfold pkTail; rw [if_pos HZ.out.1, if_neg (by rw [HZ.out.2]; decide), hce]
        · refine ⟨_, _, _, _, by rw [HN.out.1]; exact k7, ⟨c7.ownsG HD.out.2.2.2.2.1 HD.out.2.2.2.2.2.2.2.2.1 HD.out.2.2.2.2.2.2.2.2.2, c7.ownsG HD.out.2.2.2.2.2.1 HD.out.2.2.2.2.2.2.2.2.1 HD.out.2.2.2.2.2.2.2.2.2, World.ownsRow_nil _ _ _ _, HD.out.2.2.2.2.2.2.1, apart_nil _, apart_nil _⟩, owns_mono o7 HD.out.2.1.size⟩
    · have hfn : (first != 128) = true := by simp [h128]
      have HZ : Hid _ := And.intro hv1 h128
      clear hv0 hv1 h128
      go_wp2_with fail
      go_at_call 55
      refine (leaveIf_t _ 3 _).mono ?_
      rintro e w4 ⟨rfl, hw4⟩
      rw [hw4]; clear hw4 w4
      go_wp2_with fail
      refine ⟨rfl, HD.out.2.1, Or.inl ⟨3, ?_, rfl⟩⟩
      rw [HD.out.1]; unfold pkTail; rw [if_pos HZ.out.1, if_pos HZ.out.2]
  · have hv0' : (V == 0) = false := by simp [hv0]
    have HZ : Hid (¬ V = 0) := hv0
    clear hv0
    have hlf := longFormC first _ (HM.out.2.1.chg HD.out.2.1 HN.out.2.2.2.2.2.2.2.2.1) HN.out.2.2.2.2.2.2.2.2.2.1 HN.out.2.2.2.2.2.2.2.2.2.2
    obtain ⟨F, hF⟩ : ∃ F, lform first = F := ⟨_, rfl⟩
    rw [hF] at hlf
    have x6 := HD.out.2.2.1.c_f
    have y6 := HD.out.2.2.1.fr 0
    have k7 := HD.out.2.2.1.set_f F
    have r7 := HD.out.2.2.2.1.other (i := 0) (u := .int .i64 F) HN.out.2.2.1
    have cT : Chg (SG g pb) (w3.setCell ⟨pb, 3, none⟩ (.slice wa s.length wp)) ((w3.setCell ⟨pb, 3, none⟩ (.slice wa s.length wp)).setCell ⟨pb, 0, none⟩ (.int .i64 F)) := (Chg.refl _ _).setP 0 _
    have c7 := HD.out.2.1.trans cT
    have l7 := HM.out.2.2.2.1.chg c7 HN.out.2.2.2.2.2.2.1
    have t7 := HM.out.1.chg c7 HN.out.2.2.2.2.2.2.2.1
    have z7 := k7.c_f
    have od := cT.ownsG HD.out.2.2.2.2.1 HD.out.2.2.2.2.2.2.2.2.1 HD.out.2.2.2.2.2.2.2.2.2
    have os := cT.ownsG HD.out.2.2.2.2.2.1 HD.out.2.2.2.2.2.2.2.2.1 HD.out.2.2.2.2.2.2.2.2.2
    have eT : pkLong xs first = pkTail xs first V d s p2 := HD.out.1
    by_cases f3 : F = 3
    · have hret := retryRC g pb b off n cap p2 xs F V _ _ _ _ 0 0 _ r7 k7 l7 HN.out.2.1 HN.out.2.2.1 HN.out.2.2.2.2.1 HD.out.2.2.2.2.2.2.2.1
      have d3 : (F == 3) = true := by simp [f3]
      have eQ : pkTail xs first V d s p2 = match pkRet xs p2 with
          | .error c => .error c
          | .ok t => .ok ⟨3, V, d, s, t, [], 0, xs.length⟩ := by unfold pkTail; (rw [if_neg HZ.out, if_pos (hF.trans f3)]) <;> (cases pkRet xs p2 <;> rfl)
      have HX : Hid _ := And.intro (eT.trans eQ) (And.intro c7 (And.intro od (And.intro os f3)))
      clear k7 r7 l7 t7 od os eT eQ hF f3 c7 cT
      go_wp2_with fail
      go_at_call 82
      refine hlf.mono ?_
      rintro e w4 ⟨rfl, hw4⟩
      rw [hw4]; clear hw4 w4
      go_wp2_with fail
      go_at_call 83
      refine hret.mono ?_
      rintro e w4 ⟨c8, ⟨c, hce, rfl⟩ | ⟨t, vt, hce, rfl, k8, o8, ht8⟩⟩
      · go_wp2_with fail
        exact ⟨rfl, HX.out.2.1.trans c8, Or.inl ⟨c, by rw [HX.out.1, hce], rfl⟩⟩
      · go_wp2_with fail
        first | go_end0 | refine bodyPost_ret (results_none rfl _ _ _) rfl ?_
        refine ⟨HX.out.2.1.trans c8, Or.inr ⟨⟨3, V, d, s, t, [], 0, xs.length⟩, by rw [HX.out.1, hce], rfl, ?_⟩⟩
        refine ⟨_, _, _, _, by rw [HN.out.1]; rw [HX.out.2.2.2.2] at k8; exact k8, ⟨c8.ownsG HX.out.2.2.1 HD.out.2.2.2.2.2.2.2.2.1 HD.out.2.2.2.2.2.2.2.2.2, c8.ownsG HX.out.2.2.2.1 HD.out.2.2.2.2.2.2.2.2.1 HD.out.2.2.2.2.2.2.2.2.2, owns_mono o8 HX.out.2.1.size, HD.out.2.2.2.2.2.2.1, apart_of HX.out.2.2.1 o8 (Nat.le_refl _), apart_of HX.out.2.2.2.1 o8 (Nat.le_refl _)⟩, World.ownsRow_nil _ _ _ _⟩
    have d3 : (F == 3) = false := by simp [f3]
    by_cases f1 : F = 1
    case neg =>
      have d1 : (F == 1) = false := by simp [f1]
      by_cases f2 : F = 2
      · have hbeh := behindC g pb b off n cap p2 xs F V _ _ _ _ 0 0 _ t7 r7 k7 l7 HM.out.2.2.2.2.1 HN.out.2.1 HN.out.2.2.1 HN.out.2.2.2.2.1 HD.out.2.2.2.2.2.2.2.1
        have d2 : (F == 2) = true := by simp [f2]
        have eQ : pkTail xs first V d s p2 = match pkBeh xs p2 with
            | .error c => .error c
            | .ok (a, q) => .ok ⟨2, V, d, s, [], [], a, q⟩ := by unfold pkTail; (rw [if_neg HZ.out, if_neg (by omega), if_neg (by omega), if_pos (hF.trans f2)]) <;> (cases pkBeh xs p2 <;> rfl)
        have HX : Hid _ := And.intro (eT.trans eQ) (And.intro c7 (And.intro od (And.intro os f2)))
        clear k7 r7 l7 t7 od os eT eQ hF f3 f1 f2 c7 cT
        go_wp2_with fail
        go_at_call 82
        refine hlf.mono ?_
        rintro e w4 ⟨rfl, hw4⟩
        rw [hw4]; clear hw4 w4
        go_wp2_with fail
        go_at_call 85
        refine hbeh.mono ?_
        rintro e w4 ⟨c8, ⟨c, hce, rfl⟩ | ⟨a, q, hce, rfl, k8, ha8, hq8⟩⟩
        · go_wp2_with fail
          exact ⟨rfl, HX.out.2.1.trans c8, Or.inl ⟨c, by rw [HX.out.1, hce], rfl⟩⟩
        · go_wp2_with fail
          first | go_end0 | refine bodyPost_ret (results_none rfl _ _ _) rfl ?_
          refine ⟨HX.out.2.1.trans c8, Or.inr ⟨⟨2, V, d, s, [], [], a, q⟩, by rw [HX.out.1, hce], rfl, ?_⟩⟩
          refine ⟨_, _, _, _, by rw [HX.out.2.2.2.2] at k8; exact k8, ⟨c8.ownsG HX.out.2.2.1 HD.out.2.2.2.2.2.2.2.2.1 HD.out.2.2.2.2.2.2.2.2.2, c8.ownsG HX.out.2.2.2.1 HD.out.2.2.2.2.2.2.2.2.1 HD.out.2.2.2.2.2.2.2.2.2, World.ownsRow_nil _ _ _ _, HD.out.2.2.2.2.2.2.1, apart_nil _, apart_nil _⟩, World.ownsRow_nil _ _ _ _⟩
      · have d2 : (F == 2) = false := by simp [f2]
        have eQ : pkTail xs first V d s p2 = .error 3 := by unfold pkTail; rw [if_neg HZ.out, if_neg (by omega), if_neg (by omega), if_neg (by omega)]
        have HX : Hid _ := And.intro (eT.trans eQ) (And.intro c7 (And.intro od (And.intro os f2)))
        clear k7 r7 l7 t7 od os eT eQ hF f3 f1 f2 c7 cT
        go_wp2_with fail
        go_at_call 82
        refine hlf.mono ?_
        rintro e w4 ⟨rfl, hw4⟩
        rw [hw4]; clear hw4 w4
        go_wp2_with fail
        go_at_call 76
        refine (leaveC _ 3 _).mono ?_
        rintro e w4 ⟨rfl, hw4⟩
        rw [hw4]; clear hw4 w4
        go_wp2_with fail
        exact ⟨rfl, HX.out.2.1, Or.inl ⟨3, HX.out.1, rfl⟩⟩
    have d1 : (F == 1) = true := by simp [f1]
    have eQ : pkTail xs first V d s p2 = pkIni xs V d s p2 := by unfold pkTail; rw [if_neg HZ.out, if_neg (by omega), if_pos (hF.trans f1)]
    have HX : Hid _ := And.intro (eT.trans eQ) (And.intro c7 (And.intro od (And.intro os (And.intro f1 (And.intro k7 (And.intro r7 (And.intro l7 t7)))))))
    clear k7 r7 l7 t7 od os eT eQ hF f3 f1 c7 cT
    by_cases hv : varOK xs p2
    case neg =>
      have hvar := variable_no g b off n cap p2 xs _ HX.out.2.2.2.2.2.2.2.2 HX.out.2.2.2.2.2.2.1 HX.out.2.2.2.2.2.2.2.1 HM.out.2.2.2.2.1 HN.out.2.2.2.2.1 HD.out.2.2.2.2.2.2.2.1 hv
      have eI : pkIni xs V d s p2 = .error 2 := by unfold pkIni; rw [if_neg hv]
      have HI : Hid _ := And.intro eI True.intro
      clear hv eI
      go_wp2_with fail
      go_at_call 82
      refine hlf.mono ?_
      rintro e w4 ⟨rfl, hw4⟩
      rw [hw4]; clear hw4 w4
      go_wp2_with fail
      go_at_call 84
      refine hvar.mono ?_
      rintro e w4 ⟨rfl, c8⟩
      go_wp2_with fail
      exact ⟨rfl, HX.out.2.1.trans c8.toG, Or.inl ⟨2, HX.out.1.trans HI.out.1, rfl⟩⟩
    have hvar := variable_ok g b off n cap p2 xs _ HX.out.2.2.2.2.2.2.2.2 HX.out.2.2.2.2.2.2.1 HX.out.2.2.2.2.2.2.2.1 HM.out.2.2.2.2.1 HN.out.2.2.2.2.1 hv
    have hVb := varV_bd xs p2
    have hNb := varN_bd xs p2 hv
    rw [HN.out.1] at hNb
    obtain ⟨U, hU⟩ : ∃ U : Nat, varV xs p2 = (U : Int) := ⟨(varV xs p2).toNat, by omega⟩
    obtain ⟨M, hM⟩ : ∃ M : Nat, varN xs p2 = M := ⟨_, rfl⟩
    rw [hU, hM] at hvar
    rw [hM] at hNb
    by_cases h64 : 64 < U
    · have d64 : decide ((64 : Int) < (U : Int)) = true := decide_eq_true (by omega)
      have eI : pkIni xs V d s p2 = .error 3 := by unfold pkIni; rw [if_pos hv, hU, if_pos (by omega)]
      have HI : Hid _ := And.intro eI True.intro
      clear hv eI hVb hNb hU hM h64
      go_wp2_with fail
      go_at_call 82
      refine hlf.mono ?_
      rintro e w4 ⟨rfl, hw4⟩
      rw [hw4]; clear hw4 w4
      go_wp2_with fail
      go_at_call 84
      refine hvar.mono ?_
      rintro e w4 ⟨rfl, r8, c8⟩
      go_wp2_with fail
      go_at_call 55
      refine (leaveIf_t _ 3 _).mono ?_
      rintro e w5 ⟨rfl, hw5⟩
      rw [hw5]; clear hw5 w5
      go_wp2_with fail
      exact ⟨rfl, HX.out.2.1.trans c8.toG, Or.inl ⟨3, HX.out.1.trans HI.out.1, rfl⟩⟩
    have d64 : decide ((64 : Int) < (U : Int)) = false := decide_eq_false (by omega)
    by_cases hs : n < M + U
    · have eI : pkIni xs V d s p2 = .error 2 := by unfold pkIni; rw [if_pos hv, hU, hM, if_neg (by omega), Int.toNat_natCast, if_pos (by have := HN.out.1; omega)]
      have HI : Hid _ := And.intro eI (And.intro hNb hs)
      clear hv eI hVb hNb hU hM h64 hs
      go_wp2_with fail
      go_at_call 82
      refine hlf.mono ?_
      rintro e w4 ⟨rfl, hw4⟩
      rw [hw4]; clear hw4 w4
      go_wp2_with fail
      go_at_call 84
      refine hvar.mono ?_
      rintro e w4 ⟨rfl, r8, c8⟩
      have htk := take_no g (some ⟨b, off, none⟩) n cap M U w4 r8 ⟨by omega, by have := HI.out.2.1; omega⟩ (by have := HN.out.2.2.2.2.1; omega) (by have := HI.out.2.2; omega)
      have HC8 : Hid _ := And.intro c8 True.intro
      clear c8 r8
      go_wp2_with fail
      go_at_call 55
      refine (leaveIf_f _ 3 _).mono ?_
      rintro e w5 ⟨rfl, hw5⟩
      rw [hw5]; clear hw5 w5
      go_wp2_with fail
      go_at_call 78
      refine htk.mono ?_
      rintro e w5 ⟨rfl, hw5⟩
      rw [hw5]; clear hw5 w5
      go_wp2_with fail
      exact ⟨rfl, (HX.out.2.1.trans HC8.out.1.toG).drew, Or.inl ⟨2, HX.out.1.trans HI.out.1, rfl⟩⟩
    have hsl : (sub xs M U).length = U := sub_len xs M U (by rw [HN.out.1]; omega)
    have eI : pkIni xs V d s p2 = match pkBeh xs (M + U) with
      | .error c => .error c
      | .ok (a, q) => .ok ⟨1, V, d, s, sub xs M U, [], a, q⟩ := by unfold pkIni; (rw [if_pos hv, hU, hM, if_neg (by omega), Int.toNat_natCast, if_neg (by have := HN.out.1; omega)]) <;> (cases pkBeh xs (M + U) <;> rfl)
    have HI : Hid _ := And.intro eI (And.intro hNb (And.intro hs hsl))
    clear hv eI hVb hNb hU hM h64 hs hsl
    go_wp2_with fail
    go_at_call 82
    refine hlf.mono ?_
    rintro e w4 ⟨rfl, hw4⟩
    rw [hw4]; clear hw4 w4
    go_wp2_with fail
    go_at_call 84
    refine hvar.mono ?_
    rintro e w4 ⟨rfl, r8, c8⟩
    have htk := take_ok g b off n cap M U xs w4 r8 (HX.out.2.2.2.2.2.2.2.1.chg c8 HN.out.2.1) HN.out.2.1 HN.out.2.2.2.2.1 (by have := HI.out.2.2.1; omega)
    change Calls _ _ _ _ fun e w' => ∃ v, e = .returned v ∧ w'.ownsRow _ 5 1 v U ((sub xs M U).map (Value.int .u8)) ∧ _ at htk
    have HC8 : Hid _ := And.intro c8 True.intro
    clear c8 r8 hvar
    go_wp2_with fail
    go_at_call 55
    refine (leaveIf_f _ 3 _).mono ?_
    rintro e w5 ⟨rfl, hw5⟩
    rw [hw5]; clear hw5 w5
    go_wp2_with fail
    go_at_call 78
    refine htk.mono ?_
    rintro e w5 ⟨vt, rfl, o9, r9, c9⟩
    have cA9 := HC8.out.1.trans c9
    have k9 := HX.out.2.2.2.2.2.1.chg cA9 HN.out.2.2.1
    have x9 := k9.c_vt
    have y9 := k9.fr 4
    have k10 := k9.set_vt vt
    have r10 := r9.other (i := 4) (u := vt) HN.out.2.2.1
    have cB9 := (HX.out.2.1.trans (cA9.toG (pb := pb))).setP 4 vt
    have cC9 : Chg (SG g pb) _ (w5.setCell ⟨pb, 4, none⟩ vt) := (cA9.toG (pb := pb)).setP 4 vt
    have l10 := HM.out.2.2.2.1.chg cB9 HN.out.2.2.2.2.2.2.1
    have t10 := HM.out.1.chg cB9 HN.out.2.2.2.2.2.2.2.1
    have hbeh := behindC g pb b off n cap (M + U) xs _ V _ _ _ _ 0 0 _ t10 r10 k10 l10 HM.out.2.2.2.2.1 HN.out.2.1 HN.out.2.2.1 HN.out.2.2.2.2.1 (by have := HI.out.2.2.1; omega)
    have h4s : w.heap.size ≤ w4.heap.size := Nat.le_trans HX.out.2.1.size HC8.out.1.size
    have ot : (w5.setCell ⟨pb, 4, none⟩ vt).ownsRow w4.heap.size 5 1 vt U ((sub xs M U).map (Value.int .u8)) := (Only.setCell (w := w5) ⟨pb, 4, none⟩ vt).owns o9 (fun q hq e => by have h1 := (o9.lt q hq).1; have h2 := HD.out.2.2.2.2.2.2.2.2.2; have e' : q = pb := Option.some.inj e; omega)
    obtain ⟨ta, tp, et⟩ := (row_of_owns o9).form
    rw [HI.out.2.2.2] at et
    have aD : Apart (.slice va d.length vp) vt := apart_of HX.out.2.2.1 o9 HC8.out.1.size
    have aS : Apart (.slice wa s.length wp) vt := apart_of HX.out.2.2.2.1 o9 HC8.out.1.size
    have od9 := cC9.ownsG HX.out.2.2.1 HD.out.2.2.2.2.2.2.2.2.1 HD.out.2.2.2.2.2.2.2.2.2
    have os9 := cC9.ownsG HX.out.2.2.2.1 HD.out.2.2.2.2.2.2.2.2.1 HD.out.2.2.2.2.2.2.2.2.2
    have HY : Hid _ := And.intro cB9 (And.intro od9 (And.intro os9 (And.intro (owns_mono ot h4s) (And.intro aD aS))))
    clear cA9 k9 k10 r10 cB9 cC9 l10 t10 h4s ot aD aS od9 os9 o9 r9 c9
    subst et
    go_wp2_with fail
    go_at_call 85
    refine hbeh.mono ?_
    rintro e w6 ⟨cX, ⟨c, hce, rfl⟩ | ⟨a, q, hce, rfl, kX, haX, hqX⟩⟩
    · go_wp2_with fail
      exact ⟨rfl, HY.out.1.trans cX, Or.inl ⟨c, by rw [HX.out.1, HI.out.1, hce], rfl⟩⟩
    · go_wp2_with fail
      first | go_end0 | refine bodyPost_ret (results_none rfl _ _ _) rfl ?_
      refine ⟨HY.out.1.trans cX, Or.inr ⟨⟨1, V, d, s, sub xs M U, [], a, q⟩, by rw [HX.out.1, HI.out.1, hce], rfl, ?_⟩⟩
      refine ⟨_, _, _, _, by rw [HX.out.2.2.2.2.1] at kX; exact kX, ⟨cX.ownsG HY.out.2.1 HD.out.2.2.2.2.2.2.2.2.1 HD.out.2.2.2.2.2.2.2.2.2, cX.ownsG HY.out.2.2.1 HD.out.2.2.2.2.2.2.2.2.1 HD.out.2.2.2.2.2.2.2.2.2, ?_, HD.out.2.2.2.2.2.2.1, HY.out.2.2.2.2.1, HY.out.2.2.2.2.2⟩, World.ownsRow_nil _ _ _ _⟩
      rw [HI.out.2.2.2]
      exact cX.ownsG HY.out.2.2.2.1 HD.out.2.2.2.2.2.2.2.2.1 HD.out.2.2.2.2.2.2.2.2.2
end Go.Proofs.YtoalillggafnpaaGreatDoor

namespace Go.Proofs.YtoalillggafnpaaGreatDoor
open Go.RowKit
set_option linter.unusedVariables false

set_option maxRecDepth 20000 in
theorem catch_idle (p : Addr) (w : World) :
    CallsD Tryz.prog 75 #[.pointer (some p)] .returning w fun e u' w' => e = .returned (.tuple #[]) ∧ u' = .returning ∧ w' = w := by
  refine callsD_of_wpS Tryz.func75 rfl fun c₀ cs hu => ?_
  apply wpS_seq
  apply wpS_region
  simp [wpOpsS, go_sem, recoverD, hu, Tryz.ntmps75, Exit.thenS]
  refine wpS_of_wp ?_
  go_wp2
  cases c₀
  simp_all [bodyPostS, results, Tryz.results75]
theorem taLeft (x : TypeId) (v : Value) (w : World) : (Instr.typeAssert (.iface 116 v) x 116 true).run Tryz.prog w = .ok (.tuple #[v, .bool true]) w := by
  have hr := run_underlying Tryz.underlying116 w
  simp_all [Instr.typeAssert, go_sem]
/-- The error that a code becomes. -/
def faultV (c : Int) : Value := .iface 93 (.agg #[.int .i64 c])
set_option maxRecDepth 20000 in
theorem catch_left (g : Nat) (c : Int) (older : List PanicEntry) (w : World) (hc : w.heap[g]? = some (.cells #[.nilIface] 64 (0, 0))) :
    CallsD Tryz.prog 75 #[.pointer (some ⟨g, 0, none⟩)] (.panicking (leftP c :: older)) w fun e u' w' => e = .returned (.tuple #[]) ∧ u' = .panicking ({ v := leftV c, recovered := true } :: older) ∧
      w' = (w.setCell ⟨g, 0, none⟩ (faultV c)).alloc (.cells #[faultV c] 116) := by
  have c0 : w.cell? ⟨g, 0, none⟩ = some .nilIface := (bk_cell hc 0).trans rfl
  have f0 : w.frozen? ⟨g, 0, none⟩ = false := bk_free hc 0
  have hlt : g < w.heap.size := (Array.getElem?_eq_some_iff.1 hc).1
  have hne : ¬ g = w.heap.size := by omega
  refine callsD_of_wpS Tryz.func75 rfl fun c₀ cs hu => ?_
  apply wpS_seq
  apply wpS_region
  simp [wpOpsS, go_sem, recoverD, hu, Tryz.ntmps75, Exit.thenS, leftP]
  refine wpS_of_wp ?_
  unfold leftV
  have ta := taLeft
  change Code.wp _ _ _ { tmps := #[.pointer (some ⟨g, 0, none⟩), undef, undef, undef, .iface 116 (.agg #[.iface 93 (.agg #[.int .i64 c])]), undef, undef, undef, undef, undef, undef, undef], defers := [] } _
  go_wp2
  exact ⟨rfl, _, rfl, .tuple #[], results_none rfl _ _ _, rfl, rfl, rfl⟩
set_option maxRecDepth 20000 in
set_option maxHeartbeats 1000000 in
theorem readBytes_bad (ao : Option Addr) (n cap : Nat) (a1 a2 a3 : Value) (c : Int) (w : World) (Q : World → Prop)
    (hcl : Calls Tryz.prog 54 #[.pointer (some ⟨w.heap.size + 1, 0, none⟩), a1, a2, a3] ((w.alloc (.cells #[.nilIface] 64)).alloc (.cells #[.slice ao n cap, .int .i64 0] 118)) fun e w' => e = .panicked [leftP c] ∧ Q w')
    (hQ : ∀ w', Q w' → w'.heap[w.heap.size]? = some (.cells #[.nilIface] 64 (0, 0))) :
    Calls Tryz.prog 53 #[.slice ao n cap, .func (.func 54) #[] #[a1, a2, a3]] w fun e w'' => e = .returned (faultV c) ∧ ∃ w', Q w' ∧ w'' = (w'.setCell ⟨w.heap.size, 0, none⟩ (faultV c)).alloc (.cells #[faultV c] 116) := by
  have hmf : ∀ (fn : Fn) (first cap : Array Value) (w : World), (Instr.makeFunc fn first cap).run Tryz.prog w = .ok (.func fn first cap) w := fun _ _ _ _ => rfl
  go_enter_defers Tryz.func53, Tryz.ntmps53
  go_wp2_with fail
  go_at_call 54
  refine hcl.mono ?_
  rintro e w' ⟨rfl, hq⟩
  have hb := hQ w' hq
  go_wp2_with fail
  refine leaves_cons (f := 75) (args := #[.pointer (some ⟨w.heap.size, 0, none⟩)]) (by simp) (by simp [go_sem]) ?_
  refine (catch_left w.heap.size c [] w' hb).mono ?_
  rintro e u' w'' ⟨rfl, rfl, rfl⟩
  have hc : ((w'.setCell ⟨w.heap.size, 0, none⟩ (faultV c)).alloc (.cells #[faultV c] 116)).cell? ⟨w.heap.size, 0, none⟩ = some (faultV c) := by
    have h1 := bk_set hb 0 (faultV c)
    have h2 : w.heap.size < (w'.setCell ⟨w.heap.size, 0, none⟩ (faultV c)).heap.size := (Array.getElem?_eq_some_iff.1 h1).1
    rw [World.cell?_alloc_lt _ _ ⟨w.heap.size, 0, none⟩ h2]
    exact (bk_cell h1 0).trans rfl
  simp [Leaves, settle, results, Tryz.results53, go_sem, hc]
  exact ⟨w', hq, rfl⟩
set_option maxRecDepth 20000 in
set_option maxHeartbeats 1000000 in
theorem readBytes_ok (ao : Option Addr) (n cap : Nat) (a1 a2 a3 : Value) (w : World) (Q : World → Prop)
    (hcl : Calls Tryz.prog 54 #[.pointer (some ⟨w.heap.size + 1, 0, none⟩), a1, a2, a3] ((w.alloc (.cells #[.nilIface] 64)).alloc (.cells #[.slice ao n cap, .int .i64 0] 118)) fun e w' => e = .returned (.tuple #[]) ∧ Q w')
    (hQ : ∀ w', Q w' → w'.heap[w.heap.size]? = some (.cells #[.nilIface] 64 (0, 0))) :
    Calls Tryz.prog 53 #[.slice ao n cap, .func (.func 54) #[] #[a1, a2, a3]] w fun e w'' => e = .returned .nilIface ∧ ∃ w', Q w' ∧ w'' = w'.setCell ⟨w.heap.size, 0, none⟩ .nilIface := by
  have hmf : ∀ (fn : Fn) (first cap : Array Value) (w : World), (Instr.makeFunc fn first cap).run Tryz.prog w = .ok (.func fn first cap) w := fun _ _ _ _ => rfl
  go_enter_defers Tryz.func53, Tryz.ntmps53
  go_wp2_with fail
  go_at_call 54
  refine hcl.mono ?_
  rintro e w' ⟨rfl, hq⟩
  have hb := hQ w' hq
  have c0 : w'.cell? ⟨w.heap.size, 0, none⟩ = some .nilIface := (bk_cell hb 0).trans rfl
  have f0 : w'.frozen? ⟨w.heap.size, 0, none⟩ = false := bk_free hb 0
  go_wp2_with fail
  refine leaves_cons (f := 75) (args := #[.pointer (some ⟨w.heap.size, 0, none⟩)]) (by simp) (by simp [go_sem]) ?_
  refine (catch_idle ⟨w.heap.size, 0, none⟩ _).mono ?_
  rintro e u' w'' ⟨rfl, rfl, rfl⟩
  have hc : (w'.setCell ⟨w.heap.size, 0, none⟩ .nilIface).cell? ⟨w.heap.size, 0, none⟩ = some .nilIface := (bk_cell (bk_set hb 0 .nilIface) 0).trans rfl
  simp [Leaves, settle, results, Tryz.results53, go_sem, hc]
  exact ⟨w', hq, rfl⟩
end Go.Proofs.YtoalillggafnpaaGreatDoor

namespace Go.Proofs.YtoalillggafnpaaGreatDoor
open Go.RowKit Go.Extern.Stop Go.Stop Go.Extern
set_option linter.unusedVariables false

theorem as_nil (t : Value) (w : World) :
    Calls Tryz.prog 60 #[.nilIface, t] w fun e w' => e = .returned (.bool false) ∧ w' = w := by
  go_enter Tryz.func60, Tryz.ntmps60
  go_wp2
  go_ret
  exact ⟨rfl, rfl⟩
theorem rl_valueOfP (t : Addr) (w : World) : (ReflectliteValue.unpack (.iface 95 (.pointer (some t)))).run Tryz.prog w
    = .ok (.agg #[.pointer (some ⟨3, 95, none⟩), .pointer (some ⟨w.heap.size, 0, none⟩), .int .u64 150]) (w.alloc (.cells #[.pointer (some t)] 95)) := by kernel_rfl
theorem rl_typeP (a : Addr) (w : World) : (ReflectliteValue.methodAny (ReflectliteValue.valueError "reflectlite.Value.Type" 0) (fun t _ _ _ => ReflectliteType.toType t) #[.agg #[.pointer (some ⟨3, 95, none⟩), .pointer (some a), .int .u64 150]]).run Tryz.prog w
    = .ok (.iface 140 (.agg #[.pointer (some ⟨3, 95, none⟩)])) w := by kernel_rfl
theorem rl_methodKind (h : Value) (w : World) : (Go.method 284 140 (.agg #[h]) "Kind").run Tryz.prog w = .ok (115, h) w := by kernel_rfl
theorem rl_kindP (w : World) : ((ReflectliteType.abiMethod fun t => (fun a : Nat => Value.int IntKind.u8 (a : Int)) <$> Rtype.kind t) #[.pointer (some ⟨3, 95, none⟩)]).run Tryz.prog w = .ok (.int .u8 22) w := by kernel_rfl
theorem rl_kindS (w : World) : ((ReflectliteType.abiMethod fun t => (fun a : Nat => Value.int IntKind.u8 (a : Int)) <$> Rtype.kind t) #[.pointer (some ⟨3, 93, none⟩)]).run Tryz.prog w = .ok (.int .u8 25) w := by kernel_rfl
theorem rlm (z : Sem Value) (f : TypeId → Addr → Nat → Nat → Sem Value) (v : Value) :
    ReflectliteValue.method z f #[v] = (do match ← ReflectliteValue.parts v with | none => z | some (t, a, fl) => f t a fl (fl % 32)) := rfl
theorem rl_partsP (a : Addr) (w : World) : (ReflectliteValue.parts (.agg #[.pointer (some ⟨3, 95, none⟩), .pointer (some a), .int .u64 150])).run Tryz.prog w = .ok (some (95, a, 150)) w := by kernel_rfl
theorem rl_isNilP (a p : Addr) (W : World) (ha : W.cell? a = some (.pointer (some p))) :
    (ReflectliteValue.method (ReflectliteValue.valueError "reflectlite.Value.IsNil" 0) ReflectliteValue.isNil #[.agg #[.pointer (some ⟨3, 95, none⟩), .pointer (some a), .int .u64 150]]).run Tryz.prog W = .ok (.bool false) W := by
  rw [rlm]
  simp only [Sem.run_bind, rl_partsP, Result.andThen]
  simp [ReflectliteValue.isNil, loadVar, isAgg, underlying, Tryz.underlying95, ha, Result.andThen]
theorem rl_methodElem (h : Value) (w : World) : (Go.method 284 140 (.agg #[h]) "Elem").run Tryz.prog w = .ok (126, .agg #[h]) w := by kernel_rfl
theorem rl_methodImplements (h : Value) (w : World) : (Go.method 284 140 (.agg #[h]) "Implements").run Tryz.prog w = .ok (127, .agg #[h]) w := by kernel_rfl
theorem rl_methodAssignableTo (h : Value) (w : World) : (Go.method 284 140 (.agg #[h]) "AssignableTo").run Tryz.prog w = .ok (124, .agg #[h]) w := by kernel_rfl
theorem rl_elemP (w : World) : (ReflectliteType.method ReflectliteType.elem #[.agg #[.pointer (some ⟨3, 95, none⟩)]]).run Tryz.prog w = .ok (.iface 140 (.agg #[.pointer (some ⟨3, 93, none⟩)])) w := by kernel_rfl
theorem rl_implementsS (w : World) : (ReflectliteType.relation "Implements" ReflectliteType.implements_ #[.agg #[.pointer (some ⟨3, 93, none⟩)], .iface 140 (.agg #[.pointer (some ⟨3, 64, none⟩)])]).run Tryz.prog w = .ok (.bool true) w := by kernel_rfl
theorem rl_typeOfS (v : Value) (w : World) : (ReflectliteType.typeOf #[.iface 93 v]).run Tryz.prog w = .ok (.iface 140 (.agg #[.pointer (some ⟨3, 93, none⟩)])) w := by kernel_rfl
theorem rl_assignableS (w : World) : (ReflectliteType.relation "AssignableTo" ReflectliteType.assignableTo #[.agg #[.pointer (some ⟨3, 93, none⟩)], .iface 140 (.agg #[.pointer (some ⟨3, 93, none⟩)])]).run Tryz.prog w = .ok (.bool true) w := by kernel_rfl
theorem rl_valueOfS (c : Int) (w : World) : (ReflectliteValue.unpack (.iface 93 (.agg #[.int .i64 c]))).run Tryz.prog w
    = .ok (.agg #[.pointer (some ⟨3, 93, none⟩), .pointer (some ⟨w.heap.size, 0, none⟩), .int .u64 153]) (w.alloc (.cells #[.int .i64 c] 93)) := by kernel_rfl
theorem rl_elemOfP (w : World) : (Rtype.elem? 95).run Tryz.prog w = .ok (some 93) w := by kernel_rfl
theorem rl_mkS (p : Addr) (w : World) : (ReflectliteValue.mk 93 p ReflectliteValue.flagAddr).run Tryz.prog w = .ok (.agg #[.pointer (some ⟨3, 93, none⟩), .pointer (some p), .int .u64 409]) w := by kernel_rfl
theorem rl_elemV (a p : Addr) (W : World) (ha : W.cell? a = some (.pointer (some p))) :
    (ReflectliteValue.method (ReflectliteValue.valueError "reflectlite.Value.Elem" 0) ReflectliteValue.elem #[.agg #[.pointer (some ⟨3, 95, none⟩), .pointer (some a), .int .u64 150]]).run Tryz.prog W
      = .ok (.agg #[.pointer (some ⟨3, 93, none⟩), .pointer (some p), .int .u64 409]) W := by
  rw [rlm]
  simp only [Sem.run_bind, rl_partsP, Result.andThen]
  simp [ReflectliteValue.elem, loadVar, isAgg, underlying, Tryz.underlying95, ha, Result.andThen, rl_elemOfP, rl_mkS]
theorem rls (v x : Value) : ReflectliteValue.set #[v, x] = (do
    let (some (dst, a, fl), some (src, b, _)) := (← ReflectliteValue.parts v, ← ReflectliteValue.parts x)
      | unsupported (.noEntry "extern/(internal/reflectlite.Value).Set.zeroValue")
    if fl / ReflectliteValue.flagAddr % 2 == 0 then unsupported (.noEntry "extern/(internal/reflectlite.Value).Set.unaddressable")
    let val ← loadVar src b
    if ← Rtype.directlyAssignable dst src then storeVar dst a val
    else if ← Rtype.implements dst src then
      if (← Rtype.kind src) == 20 then
        match val with
        | .nilIface => unsupported (.noEntry "extern/reflectlite: a nil value of one interface type handed on as a value of another")
        | _ => storeVar dst a val
      else storeVar dst a (.iface src val)
    else panicString ("reflectlite.Set: value of type " ++ (← Rtype.spelt src) ++ " is not assignable to type " ++ (← Rtype.spelt dst))
    pure (.tuple #[])) := rfl
theorem rl_partsSa (a : Addr) (w : World) : (ReflectliteValue.parts (.agg #[.pointer (some ⟨3, 93, none⟩), .pointer (some a), .int .u64 409])).run Tryz.prog w = .ok (some (93, a, 409)) w := by kernel_rfl
theorem rl_partsS (a : Addr) (w : World) : (ReflectliteValue.parts (.agg #[.pointer (some ⟨3, 93, none⟩), .pointer (some a), .int .u64 153])).run Tryz.prog w = .ok (some (93, a, 153)) w := by kernel_rfl
theorem rl_directS (w : World) : (Rtype.directlyAssignable 93 93).run Tryz.prog w = .ok true w := by kernel_rfl
theorem rl_sizeS (w : World) : (sizeOf 93).run Tryz.prog w = .ok 1 w := by kernel_rfl
end Go.Proofs.YtoalillggafnpaaGreatDoor

namespace Go.Proofs.YtoalillggafnpaaGreatDoor
open Go.RowKit Go.Extern.Stop Go.Stop Go.Extern
set_option linter.unusedVariables false

set_option linter.unusedSimpArgs false
theorem rl_lc1 (q : Nat) (c : Int) (W : World) (hb : W.cell? ⟨q, 0, none⟩ = some (.int .i64 c)) : (loadCellsFrom ⟨q, 0, none⟩ 0 1 #[]).run Tryz.prog W = .ok #[.int .i64 c] W := by
  simp [loadCellsFrom, go_sem, hb, Result.andThen]
theorem rl_setS (g q : Nat) (c : Int) (old : Value) (W : World) (hb : W.cell? ⟨q, 0, none⟩ = some (.int .i64 c)) (ht : W.cell? ⟨g, 0, none⟩ = some old) (hf : W.frozen? ⟨g, 0, none⟩ = false) :
    (ReflectliteValue.set #[.agg #[.pointer (some ⟨3, 93, none⟩), .pointer (some ⟨g, 0, none⟩), .int .u64 409], .agg #[.pointer (some ⟨3, 93, none⟩), .pointer (some ⟨q, 0, none⟩), .int .u64 153]]).run Tryz.prog W
      = .ok (.tuple #[]) (W.setCell ⟨g, 0, none⟩ (.int .i64 c)) := by
  rw [rls]
  simp only [Sem.run_bind, rl_partsSa, rl_partsS, Result.andThen]
  simp [ReflectliteValue.flagAddr, loadVar, isAgg, underlying, Tryz.underlying93, hb, Result.andThen, rl_directS, rl_sizeS, loadCells, storeVar, Value.cells, storeCells, Addr.add, rl_lc1 q c W hb]
  rw [run_store Tryz.prog W ⟨g, 0, none⟩ _ _ (by rfl)]
  simp [ht, hf]
set_option maxRecDepth 20000 in
set_option maxHeartbeats 4000000 in
theorem as_hit (c : Int) (g : Nat) (old : Value) (w : World) (hg : w.cell? ⟨1, 0, none⟩ = some (.iface 140 (.agg #[.pointer (some ⟨3, 64, none⟩)]))) (ht0 : w.cell? ⟨g, 0, none⟩ = some old) (hf0 : w.frozen? ⟨g, 0, none⟩ = false) :
    Calls Tryz.prog 60 #[faultV c, .iface 95 (.pointer (some ⟨g, 0, none⟩))] w fun ev w' => ev = .returned (.bool true) ∧ w' = ((((w.alloc (.cells #[.pointer (some ⟨g, 0, none⟩)] 95)).alloc (.cells #[.pointer (some ⟨3, 95, none⟩), .pointer (some ⟨w.heap.size, 0, none⟩), .int .u64 150] 125)).alloc (.cells #[.pointer (some ⟨3, 95, none⟩), .pointer (some ⟨w.heap.size, 0, none⟩), .int .u64 150] 125)).alloc (.cells #[.int .i64 c] 93)).setCell ⟨g, 0, none⟩ (.int .i64 c) := by
  have h6 := @run_callFunc_extern Tryz.prog 86 _ (fun args => ReflectliteValue.unpack (args.getD 0 (.tuple #[]))) Tryz.func86 (by kernel_rfl) (by kernel_rfl) (by kernel_rfl) (by kernel_rfl)
  have h7 := @run_callFunc_extern Tryz.prog 87 _ (ReflectliteValue.methodAny (ReflectliteValue.valueError "reflectlite.Value.Type" 0) (fun t _ _ _ => ReflectliteType.toType t)) Tryz.func87 (by kernel_rfl) (by kernel_rfl) (by kernel_rfl) (by kernel_rfl)
  have h8 := @run_callFunc_extern Tryz.prog 88 _ (ReflectliteValue.method (ReflectliteValue.valueError "reflectlite.Value.IsNil" 0) ReflectliteValue.isNil) Tryz.func88 (by kernel_rfl) (by kernel_rfl) (by kernel_rfl) (by kernel_rfl)
  have h27 := @run_callFunc_extern Tryz.prog 115 _ (ReflectliteType.abiMethod fun t => do pure (.int .u8 (← Rtype.kind t))) Tryz.func115 (by kernel_rfl) (by kernel_rfl) (by kernel_rfl) (by kernel_rfl)
  have h37 := @run_callFunc_extern Tryz.prog 126 _ (ReflectliteType.method ReflectliteType.elem) Tryz.func126 (by kernel_rfl) (by kernel_rfl) (by kernel_rfl) (by kernel_rfl)
  have h38 := @run_callFunc_extern Tryz.prog 127 _ (ReflectliteType.relation "Implements" ReflectliteType.implements_) Tryz.func127 (by kernel_rfl) (by kernel_rfl) (by kernel_rfl) (by kernel_rfl)
  have h10 := @run_callFunc_extern Tryz.prog 95 _ ReflectliteType.typeOf Tryz.func95 (by kernel_rfl) (by kernel_rfl) (by kernel_rfl) (by kernel_rfl)
  have h35 := @run_callFunc_extern Tryz.prog 124 _ (ReflectliteType.relation "AssignableTo" ReflectliteType.assignableTo) Tryz.func124 (by kernel_rfl) (by kernel_rfl) (by kernel_rfl) (by kernel_rfl)
  have h11 := @run_callFunc_extern Tryz.prog 96 _ (ReflectliteValue.method (ReflectliteValue.valueError "reflectlite.Value.Elem" 0) ReflectliteValue.elem) Tryz.func96 (by kernel_rfl) (by kernel_rfl) (by kernel_rfl) (by kernel_rfl)
  have h12 := @run_callFunc_extern Tryz.prog 97 _ ReflectliteValue.set Tryz.func97 (by kernel_rfl) (by kernel_rfl) (by kernel_rfl) (by kernel_rfl)
  have tO := rl_typeOfS
  have mA := rl_methodAssignableTo
  have a25 := rl_assignableS
  have v25 := rl_valueOfS
  have f6 := rl_valueOfP
  have f7 := rl_typeP
  have mK := rl_methodKind
  have mE := rl_methodElem
  have mI := rl_methodImplements
  have k27 := rl_kindP
  have k25 := rl_kindS
  have e27 := rl_elemP
  have i25 := rl_implementsS
  have n8 := rl_isNilP ⟨w.heap.size, 0, none⟩ ⟨g, 0, none⟩ ((w.alloc (.cells #[.pointer (some ⟨g, 0, none⟩)] 95)).alloc (.cells #[.pointer (some ⟨3, 95, none⟩), .pointer (some ⟨w.heap.size, 0, none⟩), .int .u64 150] 125)) (by simp)
  have hlt : 1 < w.heap.size := by
    rcases Nat.lt_or_ge 1 w.heap.size with h | h
    · exact h
    · simp [World.cell?, Array.getElem?_eq_none h] at hg
  have hg2 : ((w.alloc (.cells #[.pointer (some ⟨g, 0, none⟩)] 95)).alloc (.cells #[.pointer (some ⟨3, 95, none⟩), .pointer (some ⟨w.heap.size, 0, none⟩), .int .u64 150] 125)).cell? ⟨1, 0, none⟩ = some (.iface 140 (.agg #[.pointer (some ⟨3, 64, none⟩)])) := by
    rw [World.cell?_alloc_lt _ _ ⟨1, 0, none⟩ (by first | (simp; done) | (simp; omega)), World.cell?_alloc_lt _ _ ⟨1, 0, none⟩ hlt]; exact hg
  have htl : g < w.heap.size := by
    rcases Nat.lt_or_ge g w.heap.size with h | h
    · exact h
    · simp [World.cell?, Array.getElem?_eq_none h] at ht0
  have el := rl_elemV ⟨w.heap.size, 0, none⟩ ⟨g, 0, none⟩ (((w.alloc (.cells #[.pointer (some ⟨g, 0, none⟩)] 95)).alloc (.cells #[.pointer (some ⟨3, 95, none⟩), .pointer (some ⟨w.heap.size, 0, none⟩), .int .u64 150] 125)).alloc (.cells #[.pointer (some ⟨3, 95, none⟩), .pointer (some ⟨w.heap.size, 0, none⟩), .int .u64 150] 125)) (by rw [World.cell?_alloc_lt _ _ ⟨w.heap.size, 0, none⟩ (by first | (simp; done) | (simp; omega))]; simp)
  have st := rl_setS g (w.heap.size + 1 + 1 + 1) c old ((((w.alloc (.cells #[.pointer (some ⟨g, 0, none⟩)] 95)).alloc (.cells #[.pointer (some ⟨3, 95, none⟩), .pointer (some ⟨w.heap.size, 0, none⟩), .int .u64 150] 125)).alloc (.cells #[.pointer (some ⟨3, 95, none⟩), .pointer (some ⟨w.heap.size, 0, none⟩), .int .u64 150] 125)).alloc (.cells #[.int .i64 c] 93))
    (by rw [World.cell?_alloc_at _ _ _ _ (by simp)]; rfl)
    (by rw [World.cell?_alloc_lt _ _ ⟨g, 0, none⟩ (by first | (simp; done) | (simp; omega)), World.cell?_alloc_lt _ _ ⟨g, 0, none⟩ (by first | (simp; done) | (simp; omega)), World.cell?_alloc_lt _ _ ⟨g, 0, none⟩ (by first | (simp; done) | (simp; omega)), World.cell?_alloc_lt _ _ ⟨g, 0, none⟩ htl]; exact ht0)
    (by rw [World.frozen?_alloc_old _ _ ⟨g, 0, none⟩ (by first | (simp; done) | (simp; omega)), World.frozen?_alloc_old _ _ ⟨g, 0, none⟩ (by first | (simp; done) | (simp; omega)), World.frozen?_alloc_old _ _ ⟨g, 0, none⟩ (by first | (simp; done) | (simp; omega)), World.frozen?_alloc_old _ _ ⟨g, 0, none⟩ (Nat.ne_of_lt htl)]; exact hf0)
  unfold faultV
  go_enter Tryz.func60, Tryz.ntmps60
  go_wp2
  refine wp_loop_rounds 1 ?_
  rw [rounds_succ]
  go_wp2
  go_ret
  exact ⟨rfl, rfl⟩
end Go.Proofs.YtoalillggafnpaaGreatDoor

namespace Go.Proofs.YtoalillggafnpaaGreatDoor
open Go.RowKit
set_option linter.unusedVariables false

/-- The variable errors.errorType, as the program's text lays it. -/
def errT (w : World) : Prop := w.cell? ⟨1, 0, none⟩ = some (.iface 140 (.agg #[.pointer (some ⟨3, 64, none⟩)]))
theorem errT.lt {w : World} (h : errT w) : 1 < w.heap.size := by
  rcases Nat.lt_or_ge 1 w.heap.size with h' | h'
  · exact h'
  · simp [errT, World.cell?, Array.getElem?_eq_none h'] at h
theorem errT.below {w w' : World} {B : Nat} (h : errT w) (hb : Below B w w') (h0 : 1 < B) : errT w' := (hb.cell (p := ⟨1, 0, none⟩) h0).trans h
theorem codeC_nil (w : World) : Calls Tryz.prog 37 #[.nilIface] w fun e w' => e = .returned (.int .i64 0) ∧ Below w.heap.size w w' := by
  have B0 : ∀ o, Below w.heap.size w (w.alloc o) := fun o => (Below.refl _ _).alloc (Nat.le_refl _) o
  go_enter Tryz.func37, Tryz.ntmps37
  go_wp2_with fail
  go_at_call 60
  refine (as_nil _ _).mono ?_
  rintro e w1 ⟨rfl, rfl⟩
  go_wp2_with fail
  go_ret
  exact ⟨rfl, B0 _⟩
set_option maxRecDepth 20000 in
theorem codeC_fault (c : Int) (w : World) (hg : errT w) : Calls Tryz.prog 37 #[faultV c] w fun e w' => e = .returned (.int .i64 c) ∧ Below w.heap.size w w' := by
  have B0 : Below w.heap.size w (w.alloc (.cells #[.int .i64 0] 93)) := (Below.refl _ _).alloc (Nat.le_refl _) _
  have hn := heap_alloc_new w (.cells #[.int .i64 0] 93)
  have h1 := as_hit c w.heap.size (.int .i64 0) _ (hg.below B0 hg.lt) ((bk_cell hn 0).trans rfl) (bk_free hn 0)
  unfold faultV at h1 ⊢
  have HH : Hid _ := And.intro B0 hn
  clear B0 hn hg
  go_enter Tryz.func37, Tryz.ntmps37
  go_wp2_with fail
  go_at_call 60
  refine h1.mono ?_
  rintro e w1 ⟨rfl, hw1⟩
  have hb : Below w.heap.size w w1 := by
    rw [hw1]
    refine Below.setCell (p := ⟨w.heap.size, 0, none⟩) ?_ (Nat.le_refl w.heap.size) _
    exact (((HH.out.1.alloc (by simp) _).alloc (by simp <;> omega) _).alloc (by simp <;> omega) _).alloc (by simp <;> omega) _
  have hc : w1.cell? ⟨w.heap.size, 0, none⟩ = some (.int .i64 c) := by
    rw [hw1]
    have e : ((((((w.alloc (.cells #[.int .i64 0] 93)).alloc (.cells #[.pointer (some ⟨w.heap.size, 0, none⟩)] 95)).alloc (.cells #[.pointer (some ⟨3, 95, none⟩), .pointer (some ⟨(w.alloc (.cells #[.int .i64 0] 93)).heap.size, 0, none⟩), .int .u64 150] 125)).alloc (.cells #[.pointer (some ⟨3, 95, none⟩), .pointer (some ⟨(w.alloc (.cells #[.int .i64 0] 93)).heap.size, 0, none⟩), .int .u64 150] 125)).alloc (.cells #[.int .i64 c] 93)) : World).heap[w.heap.size]? = some (.cells #[.int .i64 0] 93 (0, 0)) := by
      rw [Below.heap_alloc _ _ _ (by simp <;> omega), Below.heap_alloc _ _ _ (by simp <;> omega), Below.heap_alloc _ _ _ (by simp <;> omega), Below.heap_alloc _ _ _ (by simp)]
      exact HH.out.2
    exact (bk_cell (bk_set e 0 (.int .i64 c)) 0).trans rfl
  clear hw1
  go_wp2_with fail
  go_ret
  exact ⟨rfl, hb⟩
def pkShP (xs : List Int) (cl : Int) : Except Int PK :=
  match pkSho xs 1 cl.toNat with
    | .error c => .error c
    | .ok (d, q) => .ok ⟨4, 0, d, [], [], [], q, xs.length⟩
/-- What can be told of the first packet in xs. -/
def pk (xs : List Int) (cl : Int) : Except Int PK :=
  if 65536 < xs.length then .error 4
  else if ¬ (0 ≤ cl ∧ cl ≤ 8) then .error 1
  else if xs.length < 1 then .error 2
  else if vals (sub xs 0 1) < 64 then .error 3
  else if vals (sub xs 0 1) < 128 then pkShP xs cl
  else pkLong xs (vals (sub xs 0 1))
theorem vcl_n (cl : Int) (w : World) (h : ¬ (0 ≤ cl ∧ cl ≤ 8)) : Calls Tryz.prog 56 #[.int .i64 cl] w fun e w' => e = .returned (.bool false) ∧ w' = w := by
  by_cases h0 : 0 ≤ cl
  · have d0 : decide (0 ≤ cl) = true := decide_eq_true h0
    have d1 : decide (cl ≤ 8) = false := decide_eq_false (by omega)
    clear h h0
    go_enter Tryz.func56, Tryz.ntmps56
    go_wp2
    go_ret
    exact ⟨rfl, rfl⟩
  · have d0 : decide (0 ≤ cl) = false := decide_eq_false h0
    clear h h0
    go_enter Tryz.func56, Tryz.ntmps56
    go_wp2
    go_ret
    exact ⟨rfl, rfl⟩
theorem vcl_y (cl : Int) (w : World) (h : 0 ≤ cl ∧ cl ≤ 8) : Calls Tryz.prog 56 #[.int .i64 cl] w fun e w' => e = .returned (.bool true) ∧ w' = w := by
  have d0 : decide (0 ≤ cl) = true := decide_eq_true h.1
  have d1 : decide (cl ≤ 8) = true := decide_eq_true h.2
  clear h
  go_enter Tryz.func56, Tryz.ntmps56
  go_wp2
  go_ret
  exact ⟨rfl, rfl⟩
theorem shortB (f : Int) (w : World) (h0 : 64 ≤ f) : Calls Tryz.prog 47 #[.int .u8 f] w fun e w' => e = .returned (.bool (decide (f < 128))) ∧ w' = w := by
  have d0 : decide (64 ≤ f) = true := decide_eq_true h0
  clear h0
  go_enter Tryz.func47, Tryz.ntmps47
  go_wp2
  go_ret
  exact ⟨rfl, rfl⟩
end Go.Proofs.YtoalillggafnpaaGreatDoor

namespace Go.Proofs.YtoalillggafnpaaGreatDoor
open Go.RowKit
set_option linter.unusedVariables false

theorem cell_chg {w w' : World} {S : Nat → Prop} (hc : Chg S w w') {b o : Nat} {v : Value} (h : w.cell? ⟨b, o, none⟩ = some v) (hs : ¬ S b) : w'.cell? ⟨b, o, none⟩ = some v := by
  have hl : b < w.heap.size := by
    rcases Nat.lt_or_ge b w.heap.size with h' | h'
    · exact h'
    · simp [World.cell?, Array.getElem?_eq_none h'] at h
  rw [← h]
  simp only [World.cell?, hc.block b hl hs]
set_option maxRecDepth 20000 in
set_option maxHeartbeats 4000000 in
theorem closC (g bb cb pb : Nat) (ao : Option Addr) (n cap : Nat) (cl : Int) (xs : List Int) (w : World) (ht : Tab w) (hL : TabL w) (hbb : w.cell? ⟨bb, 0, none⟩ = some (.slice ao n cap)) (hcb : w.cell? ⟨cb, 0, none⟩ = some (.int .i64 cl))
    (h : rdB w g (.slice ao n cap) 0) (hk : pkB w pb 0 0 (.slice none 0 0) (.slice none 0 0) (.slice none 0 0) (.slice none 0 0) 0 0) (hlie : n = 0 ∨ ∃ b off, ao = some ⟨b, off, none⟩ ∧ Lies w b off n cap xs ∧ b ≠ g ∧ b ≠ pb)
    (hlen : xs.length = n) (hB : Bytes xs) (hgp : pb ≠ g) (hcg : cb ≠ g) (hn : n ≤ 9223372036854775807) (hS1 : ¬ SG g pb 2) (hS2 : ¬ SG g pb 0) :
    Calls Tryz.prog 54 #[.pointer (some ⟨g, 0, none⟩), .pointer (some ⟨bb, 0, none⟩), .pointer (some ⟨cb, 0, none⟩), .pointer (some ⟨pb, 0, none⟩)] w fun e w' => Chg (SG g pb) w w' ∧ ((∃ c, pk xs cl = .error c ∧ e = .panicked [leftP c]) ∨
      ∃ K, pk xs cl = .ok K ∧ e = .returned (.tuple #[]) ∧ LRes w.heap.size w' pb K) := by
  by_cases a1 : 65536 < n
  · have e : pk xs cl = .error 4 := by unfold pk; rw [if_pos (by omega)]
    have HE : Hid _ := And.intro e True.intro
    replace a1 : decide ((65536 : Int) < (n : Int)) = true := decide_eq_true (by omega)
    clear e ht hL h hk hlie hlen hB
    go_enter Tryz.func54, Tryz.ntmps54
    go_wp2_with fail
    go_at_call 55
    refine (leaveIf_t _ 4 _).mono ?_
    rintro e w1 ⟨rfl, hw1⟩
    rw [hw1]; clear hw1 w1
    go_wp2_with fail
    exact ⟨rfl, Chg.refl _ _, Or.inl ⟨4, HE.out.1, rfl⟩⟩
  have a1' : decide ((65536 : Int) < (n : Int)) = false := decide_eq_false (by omega)
  by_cases a2 : 0 ≤ cl ∧ cl ≤ 8
  case neg =>
    have e : pk xs cl = .error 1 := by unfold pk; rw [if_neg (by omega), if_pos a2]
    have HE : Hid _ := And.intro e True.intro
    have hv := vcl_n cl w a2
    clear e ht hL h hk hlie hlen hB a1 a2
    go_enter Tryz.func54, Tryz.ntmps54
    go_wp2_with fail
    go_at_call 55
    refine (leaveIf_f _ 4 _).mono ?_
    rintro e w1 ⟨rfl, hw1⟩
    rw [hw1]; clear hw1 w1
    go_wp2_with fail
    go_at_call 56
    refine hv.mono ?_
    rintro e w1 ⟨rfl, hw1⟩
    rw [hw1]; clear hw1 w1
    go_wp2_with fail
    go_at_call 55
    refine (leaveIf_t _ 1 _).mono ?_
    rintro e w1 ⟨rfl, hw1⟩
    rw [hw1]; clear hw1 w1
    go_wp2_with fail
    exact ⟨rfl, Chg.refl _ _, Or.inl ⟨1, HE.out.1, rfl⟩⟩
  have hv := vcl_y cl w a2
  by_cases a3 : n < 1
  · have e : pk xs cl = .error 2 := by unfold pk; rw [if_neg (by omega), if_neg (by omega), if_pos (by omega)]
    have HE : Hid _ := And.intro e True.intro
    have hno := number_no g ao n cap 0 1 w h ⟨by omega, by omega⟩ hn (by omega)
    clear e ht hL h hk hlie hlen hB a1 a2 a3
    go_enter Tryz.func54, Tryz.ntmps54
    go_wp2_with fail
    go_at_call 55
    refine (leaveIf_f _ 4 _).mono ?_
    rintro e w1 ⟨rfl, hw1⟩
    rw [hw1]; clear hw1 w1
    go_wp2_with fail
    go_at_call 56
    refine hv.mono ?_
    rintro e w1 ⟨rfl, hw1⟩
    rw [hw1]; clear hw1 w1
    go_wp2_with fail
    go_at_call 55
    refine (leaveIf_f _ 1 _).mono ?_
    rintro e w1 ⟨rfl, hw1⟩
    rw [hw1]; clear hw1 w1
    go_wp2_with fail
    go_at_call 57
    refine hno.mono ?_
    rintro e w1 ⟨rfl, c1⟩
    go_wp2_with fail
    exact ⟨rfl, c1.toG, Or.inl ⟨2, HE.out.1, rfl⟩⟩
  obtain ⟨b, off, rfl, hl, hgb, hbp⟩ : ∃ b off, ao = some ⟨b, off, none⟩ ∧ Lies w b off n cap xs ∧ b ≠ g ∧ b ≠ pb := by
    rcases hlie with h0 | h0
    · omega
    · exact h0
  have hnm := number_ok g b off n cap 0 1 xs w h hl hB hgb (by omega) (by omega) (by decide) (by decide)
  have hfb := numK_lt xs hB 0 1 (by decide)
  have hf255 : vals (sub xs 0 1) < 256 := by
    have h1 := vals_lt (sub xs 0 1) (sub_bytes hB 0 1)
    rw [sub_len xs 0 1 (by omega)] at h1
    simpa using h1
  have eP : pk xs cl = if vals (sub xs 0 1) < 64 then .error 3 else if vals (sub xs 0 1) < 128 then pkShP xs cl else pkLong xs (vals (sub xs 0 1)) := by
    unfold pk; rw [if_neg (by omega), if_neg (by omega), if_neg (by omega)]
  obtain ⟨F, hF⟩ : ∃ F, F = vals (sub xs 0 1) := ⟨_, rfl⟩
  rw [← hF] at hnm hfb hf255 eP
  have hw8 : IntKind.u8.wrap F = F := by rw [IntKind.wrap_u8]; omega
  have HP : Hid _ := And.intro eP (And.intro ht (And.intro hL (And.intro hk (And.intro hl (And.intro hB (And.intro hgb (And.intro hbp (And.intro hgp (And.intro hS1 (And.intro hS2 (And.intro hlen (And.intro a1 (And.intro a2 (And.intro a3 (And.intro hcb (And.intro hcg (And.intro hfb hf255)))))))))))))))))
  clear eP ht hL h hk hlie hlen hB a1 a2 a3 hl hgb hbp hgp hS1 hS2 hF hcg
  by_cases b1 : F < 64
  · have d1 : decide (F < 64) = true := decide_eq_true b1
    have HQ : Hid _ := And.intro (HP.out.1.trans (if_pos b1)) True.intro
    clear b1 hfb hf255
    go_enter Tryz.func54, Tryz.ntmps54
    go_wp2_with fail
    go_at_call 55
    refine (leaveIf_f _ 4 _).mono ?_
    rintro e w1 ⟨rfl, hw1⟩
    rw [hw1]; clear hw1 w1
    go_wp2_with fail
    go_at_call 56
    refine hv.mono ?_
    rintro e w1 ⟨rfl, hw1⟩
    rw [hw1]; clear hw1 w1
    go_wp2_with fail
    go_at_call 55
    refine (leaveIf_f _ 1 _).mono ?_
    rintro e w1 ⟨rfl, hw1⟩
    rw [hw1]; clear hw1 w1
    go_wp2_with fail
    go_at_call 57
    refine hnm.mono ?_
    rintro e w1 ⟨rfl, r1, c1⟩
    go_wp2_with fail
    go_at_call 55
    refine (leaveIf_t _ 3 _).mono ?_
    rintro e w2 ⟨rfl, hw2⟩
    rw [hw2]; clear hw2 w2
    go_wp2_with fail
    exact ⟨rfl, c1.toG, Or.inl ⟨3, HQ.out.1, rfl⟩⟩
  have d1 : decide (F < 64) = false := decide_eq_false b1
  have hsh : ∀ wx, _ := fun wx => shortB F wx (by omega)
  by_cases b2 : F < 128
  · have d2 : decide (F < 128) = true := decide_eq_true b2
    rw [d2] at hsh
    have HQ : Hid _ := And.intro ((HP.out.1.trans (if_neg b1)).trans (if_pos b2)) True.intro
    obtain ⟨m, hm⟩ : ∃ m : Nat, cl = (m : Int) := ⟨cl.toNat, by have := HP.out.2.2.2.2.2.2.2.2.2.2.2.2.2.1; omega⟩
    subst hm
    clear b1 b2 hfb hf255 d2
    go_enter Tryz.func54, Tryz.ntmps54
    go_wp2_with fail
    go_at_call 55
    refine (leaveIf_f _ 4 _).mono ?_
    rintro e w1 ⟨rfl, hw1⟩
    rw [hw1]; clear hw1 w1
    go_wp2_with fail
    go_at_call 56
    refine hv.mono ?_
    rintro e w1 ⟨rfl, hw1⟩
    rw [hw1]; clear hw1 w1
    go_wp2_with fail
    go_at_call 55
    refine (leaveIf_f _ 1 _).mono ?_
    rintro e w1 ⟨rfl, hw1⟩
    rw [hw1]; clear hw1 w1
    go_wp2_with fail
    go_at_call 57
    refine hnm.mono ?_
    rintro e w1 ⟨rfl, r1, c1⟩
    have xc := cell_chg c1 HP.out.2.2.2.2.2.2.2.2.2.2.2.2.2.2.2.1 HP.out.2.2.2.2.2.2.2.2.2.2.2.2.2.2.2.2.1
    have hS := shortRC g pb b off n cap 1 m xs 0 0 _ _ _ _ 0 0 w1 r1 (HP.out.2.2.2.1.chg c1 HP.out.2.2.2.2.2.2.2.2.1) (HP.out.2.2.2.2.1.chg c1 HP.out.2.2.2.2.2.2.1) HP.out.2.2.2.2.2.2.1 HP.out.2.2.2.2.2.2.2.2.1 HP.out.2.2.2.2.2.2.2.1 (by have := HP.out.2.2.2.2.2.2.2.2.2.2.2.2.1; omega) (by have := HP.out.2.2.2.2.2.2.2.2.2.2.2.2.2.2.1; omega) (by have := HP.out.2.2.2.2.2.2.2.2.2.2.2.2.2.1; omega)
    have HC : Hid _ := And.intro c1 True.intro
    clear r1 c1
    go_wp2_with fail
    go_at_call 55
    refine (leaveIf_f _ 3 _).mono ?_
    rintro e w2 ⟨rfl, hw2⟩
    rw [hw2]; clear hw2 w2
    go_wp2_with fail
    go_at_call 47
    refine (hsh _).mono ?_
    rintro e w2 ⟨rfl, hw2⟩
    rw [hw2]; clear hw2 w2
    go_wp2_with fail
    go_at_call 58
    refine hS.mono ?_
    rintro e w2 ⟨c2, ⟨c, hce, rfl⟩ | ⟨d, q, vd, hce, rfl, k2, o2, hd8, hq1, hq2⟩⟩
    · go_wp2_with fail
      exact ⟨rfl, HC.out.1.toG.trans c2, Or.inl ⟨c, by rw [HQ.out.1]; unfold pkShP; rw [Int.toNat_natCast, hce], rfl⟩⟩
    · go_wp2_with fail
      first | go_end0 | refine bodyPost_ret (results_none rfl _ _ _) rfl ?_
      refine ⟨HC.out.1.toG.trans c2, Or.inr ⟨⟨4, 0, d, [], [], [], q, xs.length⟩, by rw [HQ.out.1]; unfold pkShP; rw [Int.toNat_natCast, hce], rfl, ?_⟩⟩
      exact ⟨_, _, _, _, by rw [HP.out.2.2.2.2.2.2.2.2.2.2.2.1]; exact k2, ⟨owns_mono o2 HC.out.1.size, World.ownsRow_nil _ _ _ _, World.ownsRow_nil _ _ _ _, apart_nil _, apart_nil _, apart_nil _⟩, World.ownsRow_nil _ _ _ _⟩
  · have d2 : decide (F < 128) = false := decide_eq_false b2
    rw [d2] at hsh
    have HQ : Hid _ := And.intro ((HP.out.1.trans (if_neg b1)).trans (if_neg b2)) True.intro
    clear b1 b2 hfb hf255 d2
    go_enter Tryz.func54, Tryz.ntmps54
    go_wp2_with fail
    go_at_call 55
    refine (leaveIf_f _ 4 _).mono ?_
    rintro e w1 ⟨rfl, hw1⟩
    rw [hw1]; clear hw1 w1
    go_wp2_with fail
    go_at_call 56
    refine hv.mono ?_
    rintro e w1 ⟨rfl, hw1⟩
    rw [hw1]; clear hw1 w1
    go_wp2_with fail
    go_at_call 55
    refine (leaveIf_f _ 1 _).mono ?_
    rintro e w1 ⟨rfl, hw1⟩
    rw [hw1]; clear hw1 w1
    go_wp2_with fail
    go_at_call 57
    refine hnm.mono ?_
    rintro e w1 ⟨rfl, r1, c1⟩
    have hLo := longRC g pb b off n cap xs F w1 (HP.out.2.1.chg c1.toG HP.out.2.2.2.2.2.2.2.2.2.1) (HP.out.2.2.1.chg c1.toG HP.out.2.2.2.2.2.2.2.2.2.2.1) r1 (HP.out.2.2.2.1.chg c1 HP.out.2.2.2.2.2.2.2.2.1) (HP.out.2.2.2.2.1.chg c1 HP.out.2.2.2.2.2.2.1) HP.out.2.2.2.2.2.1 HP.out.2.2.2.2.2.2.1 HP.out.2.2.2.2.2.2.2.2.1 HP.out.2.2.2.2.2.2.2.1 (by have := HP.out.2.2.2.2.2.2.2.2.2.2.2.2.1; omega) (by have := HP.out.2.2.2.2.2.2.2.2.2.2.2.2.2.2.1; omega) HP.out.2.2.2.2.2.2.2.2.2.2.2.2.2.2.2.2.2.1.1 HP.out.2.2.2.2.2.2.2.2.2.2.2.2.2.2.2.2.2.2 HP.out.2.2.2.2.2.2.2.2.2.1 HP.out.2.2.2.2.2.2.2.2.2.2.1
    have HC : Hid _ := And.intro c1 True.intro
    clear r1 c1
    go_wp2_with fail
    go_at_call 55
    refine (leaveIf_f _ 3 _).mono ?_
    rintro e w2 ⟨rfl, hw2⟩
    rw [hw2]; clear hw2 w2
    go_wp2_with fail
    go_at_call 47
    refine (hsh _).mono ?_
    rintro e w2 ⟨rfl, hw2⟩
    rw [hw2]; clear hw2 w2
    go_wp2_with fail
    go_at_call 59
    refine hLo.mono ?_
    rintro e w2 ⟨c2, ⟨c, hce, rfl⟩ | ⟨K, hce, rfl, k2⟩⟩
    · go_wp2_with fail
      exact ⟨rfl, HC.out.1.toG.trans c2, Or.inl ⟨c, HQ.out.1.trans hce, rfl⟩⟩
    · go_wp2_with fail
      first | go_end0 | refine bodyPost_ret (results_none rfl _ _ _) rfl ?_
      refine ⟨HC.out.1.toG.trans c2, Or.inr ⟨K, HQ.out.1.trans hce, rfl, ?_⟩⟩
      obtain ⟨vd, vs, vt, vv, q1, q2, q3⟩ := k2
      exact ⟨vd, vs, vt, vv, q1, ⟨owns_mono q2.o0 HC.out.1.size, owns_mono q2.o1 HC.out.1.size, owns_mono q2.o2 HC.out.1.size, q2.a01, q2.a02, q2.a12⟩, owns_mono q3 HC.out.1.size⟩
end Go.Proofs.YtoalillggafnpaaGreatDoor

namespace Go.Proofs.YtoalillggafnpaaGreatDoor
open Go.RowKit
set_option linter.unusedVariables false

theorem results_row_tmpP {P : Program} {fn : Func} {p q : Tmp} {ty : TypeId} (h : fn.results = #[.cell p ty, .tmp q]) (tmps : Array Value) (w : World) (g : Nat) (t : TypeId) (cs : Array Value) (fr : Nat × Nat) (d : TypeDesc) (u : Value)
    (hp : tmps.getD p undef = .pointer (some ⟨g, 0, none⟩)) (hq : tmps.getD q undef = u) (hg : w.heap[g]? = some (.cells cs t fr))
    (hu : P.underlying ty = some d) (hd : (match d with | .struct _ | .array _ _ => true | _ => false) = true) (hi : (P.info? ty).map (·.size) = some cs.size) :
    (results fn tmps).run P w = .ok (.tuple #[.agg cs, u]) w := by
  have hp' : tmps[p]?.getD undef = .pointer (some ⟨g, 0, none⟩) := by simpa using hp
  have hq' : tmps[q]?.getD undef = u := by simpa using hq
  simp [results, h, hp', hq', asAddr, run_loadVar_row w g t ty cs fr d hg hu hd hi]
theorem newAt (w : World) (o : Obj) (k : Nat) (h : w.heap.size = k) : (w.alloc o).heap[k]? = some o := by subst h; exact heap_alloc_new w o
theorem six_blocks (w : World) (o0 o1 o2 o3 o4 o5 : Obj) :
    ((((((w.alloc o0).alloc o1).alloc o2).alloc o3).alloc o4).alloc o5).heap[w.heap.size]? = some o0 ∧ ((((((w.alloc o0).alloc o1).alloc o2).alloc o3).alloc o4).alloc o5).heap[w.heap.size + 1]? = some o1 ∧
    ((((((w.alloc o0).alloc o1).alloc o2).alloc o3).alloc o4).alloc o5).heap[w.heap.size + 2]? = some o2 ∧ ((((((w.alloc o0).alloc o1).alloc o2).alloc o3).alloc o4).alloc o5).heap[w.heap.size + 3]? = some o3 ∧
    ((((((w.alloc o0).alloc o1).alloc o2).alloc o3).alloc o4).alloc o5).heap[w.heap.size + 4]? = some o4 ∧ ((((((w.alloc o0).alloc o1).alloc o2).alloc o3).alloc o4).alloc o5).heap[w.heap.size + 5]? = some o5 := by
  refine ⟨?_, ?_, ?_, ?_, ?_, ?_⟩
  · rw [Below.heap_alloc _ _ _ (by first | (simp; done) | (simp; omega)), Below.heap_alloc _ _ _ (by first | (simp; done) | (simp; omega)), Below.heap_alloc _ _ _ (by first | (simp; done) | (simp; omega)), Below.heap_alloc _ _ _ (by first | (simp; done) | (simp; omega)), Below.heap_alloc _ _ _ (by first | (simp; done) | (simp; omega))]; exact newAt _ _ _ (by simp)
  · rw [Below.heap_alloc _ _ _ (by first | (simp; done) | (simp; omega)), Below.heap_alloc _ _ _ (by first | (simp; done) | (simp; omega)), Below.heap_alloc _ _ _ (by first | (simp; done) | (simp; omega)), Below.heap_alloc _ _ _ (by first | (simp; done) | (simp; omega))]; exact newAt _ _ _ (by simp)
  · rw [Below.heap_alloc _ _ _ (by first | (simp; done) | (simp; omega)), Below.heap_alloc _ _ _ (by first | (simp; done) | (simp; omega)), Below.heap_alloc _ _ _ (by first | (simp; done) | (simp; omega))]; exact newAt _ _ _ (by simp)
  · rw [Below.heap_alloc _ _ _ (by first | (simp; done) | (simp; omega)), Below.heap_alloc _ _ _ (by first | (simp; done) | (simp; omega))]; exact newAt _ _ _ (by simp)
  · rw [Below.heap_alloc _ _ _ (by first | (simp; done) | (simp; omega))]; exact newAt _ _ _ (by simp)
  · exact newAt _ _ _ (by simp)
theorem six_below (w : World) (o0 o1 o2 o3 o4 o5 : Obj) : Below w.heap.size w ((((((w.alloc o0).alloc o1).alloc o2).alloc o3).alloc o4).alloc o5) :=
  ((((((Below.refl _ _).alloc (Nat.le_refl _) _).alloc (by simp) _).alloc (by simp; omega) _).alloc (by simp; omega) _).alloc (by simp; omega) _).alloc (by simp; omega) _
theorem owns_set {W : World} {B g i t m : Nat} {u v : Value} {L : List Value} (h : W.ownsRow B t 1 v m L) (hg : g < B) : (W.setCell ⟨g, i, none⟩ u).ownsRow B t 1 v m L :=
  (Only.setCell (w := W) ⟨g, i, none⟩ u).owns h (fun q hq e => by have h1 := (h.lt q hq).1; have e' : q = g := Option.some.inj e; omega)
/-- Eleven stores into one block. -/
abbrev st11 (w : World) (g : Nat) (a0 a1 a2 a3 a4 a5 a6 a7 a8 a9 a10 : Value) : World := (((((((((((w.setCell ⟨g, 0, none⟩ a0).setCell ⟨g, 1, none⟩ a1).setCell ⟨g, 2, none⟩ a2).setCell ⟨g, 3, none⟩ a3).setCell ⟨g, 4, none⟩ a4).setCell ⟨g, 5, none⟩ a5).setCell ⟨g, 6, none⟩ a6).setCell ⟨g, 7, none⟩ a7).setCell ⟨g, 8, none⟩ a8).setCell ⟨g, 9, none⟩ a9).setCell ⟨g, 10, none⟩ a10)
theorem st11_heap {w : World} {g : Nat} {a0 a1 a2 a3 a4 a5 a6 a7 a8 a9 a10 c0 c1 c2 c3 c4 c5 c6 c7 c8 c9 c10 : Value} {t : TypeId} (h : w.heap[g]? = some (.cells #[c0, c1, c2, c3, c4, c5, c6, c7, c8, c9, c10] t (0, 0))) : (st11 w g a0 a1 a2 a3 a4 a5 a6 a7 a8 a9 a10).heap[g]? = some (.cells #[a0, a1, a2, a3, a4, a5, a6, a7, a8, a9, a10] t (0, 0)) :=
  ((bk_set (bk_set (bk_set (bk_set (bk_set (bk_set (bk_set (bk_set (bk_set (bk_set (bk_set h 0 a0) 1 a1) 2 a2) 3 a3) 4 a4) 5 a5) 6 a6) 7 a7) 8 a8) 9 a9) 10 a10)).trans (congrArg (fun x => some (Obj.cells x t (0, 0))) (by simp))
theorem st11_below {w0 w : World} {B g : Nat} {a0 a1 a2 a3 a4 a5 a6 a7 a8 a9 a10 : Value} (h : Below B w0 w) (hg : B ≤ g) : Below B w0 (st11 w g a0 a1 a2 a3 a4 a5 a6 a7 a8 a9 a10) := (Below.setCell (Below.setCell (Below.setCell (Below.setCell (Below.setCell (Below.setCell (Below.setCell (Below.setCell (Below.setCell (Below.setCell (Below.setCell h (p := ⟨g, 0, none⟩) hg a0) (p := ⟨g, 1, none⟩) hg a1) (p := ⟨g, 2, none⟩) hg a2) (p := ⟨g, 3, none⟩) hg a3) (p := ⟨g, 4, none⟩) hg a4) (p := ⟨g, 5, none⟩) hg a5) (p := ⟨g, 6, none⟩) hg a6) (p := ⟨g, 7, none⟩) hg a7) (p := ⟨g, 8, none⟩) hg a8) (p := ⟨g, 9, none⟩) hg a9) (p := ⟨g, 10, none⟩) hg a10)
theorem st11_owns {w : World} {B g t m : Nat} {a0 a1 a2 a3 a4 a5 a6 a7 a8 a9 a10 v : Value} {L : List Value} (h : w.ownsRow B t 1 v m L) (hg : g < B) : (st11 w g a0 a1 a2 a3 a4 a5 a6 a7 a8 a9 a10).ownsRow B t 1 v m L := (owns_set (g := g) (i := 10) (u := a10) (owns_set (g := g) (i := 9) (u := a9) (owns_set (g := g) (i := 8) (u := a8) (owns_set (g := g) (i := 7) (u := a7) (owns_set (g := g) (i := 6) (u := a6) (owns_set (g := g) (i := 5) (u := a5) (owns_set (g := g) (i := 4) (u := a4) (owns_set (g := g) (i := 3) (u := a3) (owns_set (g := g) (i := 2) (u := a2) (owns_set (g := g) (i := 1) (u := a1) (owns_set (g := g) (i := 0) (u := a0) h hg) hg) hg) hg) hg) hg) hg) hg) hg) hg) hg)
theorem infoPk : (Tryz.prog.info? 62).map (·.size) = some 11 := by kernel_rfl
def zPk : Array Value := #[.int .i64 0, .int .i64 0, .slice none 0 0, .slice none 0 0, .slice none 0 0, .int .i64 0, .int .i64 0, .int .i64 0, .slice none 0 0, .int .i64 0, .int .i64 0]
/-- The world in which the packet's bytes are read: its own variables, the error's, the reader's. -/
abbrev pkW (w : World) (ao : Option Addr) (n cap : Nat) (cl : Int) : World :=
  ((((((w.alloc (.cells #[.slice ao n cap] 22)).alloc (.cells #[.int .i64 cl] 3)).alloc (.cells #[.int .i64 0, .int .i64 0, .slice none 0 0, .slice none 0 0, .slice none 0 0, .int .i64 0, .int .i64 0, .int .i64 0, .slice none 0 0, .int .i64 0, .int .i64 0] 62)).alloc (.cells #[.int .i64 0, .int .i64 0, .slice none 0 0, .slice none 0 0, .slice none 0 0, .int .i64 0, .int .i64 0, .int .i64 0, .slice none 0 0, .int .i64 0, .int .i64 0] 62)).alloc (.cells #[.nilIface] 64)).alloc (.cells #[.slice ao n cap, .int .i64 0] 118))
theorem pkClos (ao : Option Addr) (n cap : Nat) (cl : Int) (xs : List Int) (w : World) (ht : Tab w) (hL : TabL w) (hlie : (n = 0) ∨ ∃ b off, ao = some ⟨b, off, none⟩ ∧ Lies w b off n cap xs) (hlen : xs.length = n) (hB : Bytes xs) (hn : n ≤ 9223372036854775807) :
    Calls Tryz.prog 54 #[.pointer (some ⟨w.heap.size + 5, 0, none⟩), .pointer (some ⟨w.heap.size, 0, none⟩), .pointer (some ⟨w.heap.size + 1, 0, none⟩), .pointer (some ⟨w.heap.size + 3, 0, none⟩)] (pkW w ao n cap cl) fun e w' => Chg (SG (w.heap.size + 5) (w.heap.size + 3)) (pkW w ao n cap cl) w' ∧ ((∃ c, pk xs cl = .error c ∧ e = .panicked [leftP c]) ∨
      ∃ K, pk xs cl = .ok K ∧ e = .returned (.tuple #[]) ∧ LRes (pkW w ao n cap cl).heap.size w' (w.heap.size + 3) K) := by
  obtain ⟨e0, e1, e2, e3, e4, e5⟩ := six_blocks w (.cells #[.slice ao n cap] 22) (.cells #[.int .i64 cl] 3) (.cells #[.int .i64 0, .int .i64 0, .slice none 0 0, .slice none 0 0, .slice none 0 0, .int .i64 0, .int .i64 0, .int .i64 0, .slice none 0 0, .int .i64 0, .int .i64 0] 62) (.cells #[.int .i64 0, .int .i64 0, .slice none 0 0, .slice none 0 0, .slice none 0 0, .int .i64 0, .int .i64 0, .int .i64 0, .slice none 0 0, .int .i64 0, .int .i64 0] 62) (.cells #[.nilIface] 64) (.cells #[.slice ao n cap, .int .i64 0] 118)
  have hb := six_below w (.cells #[.slice ao n cap] 22) (.cells #[.int .i64 cl] 3) (.cells #[.int .i64 0, .int .i64 0, .slice none 0 0, .slice none 0 0, .slice none 0 0, .int .i64 0, .int .i64 0, .int .i64 0, .slice none 0 0, .int .i64 0, .int .i64 0] 62) (.cells #[.int .i64 0, .int .i64 0, .slice none 0 0, .slice none 0 0, .slice none 0 0, .int .i64 0, .int .i64 0, .int .i64 0, .slice none 0 0, .int .i64 0, .int .i64 0] 62) (.cells #[.nilIface] 64) (.cells #[.slice ao n cap, .int .i64 0] 118)
  have t1 := ht.lt
  have t2 := hL.lt
  refine closC (w.heap.size + 5) w.heap.size (w.heap.size + 1) (w.heap.size + 3) ao n cap cl xs _ (ht.below hb t1) (hL.below hb t2) ((bk_cell e0 0).trans rfl) ((bk_cell e1 0).trans rfl) e5 e3 ?_ hlen hB (by omega) (by omega) hn (fun h => by rcases h with h | h <;> omega) (fun h => by rcases h with h | h <;> omega)
  rcases hlie with h0 | ⟨b, off, ha, hl⟩
  · exact Or.inl h0
  · exact Or.inr ⟨b, off, ha, hl.below hb, by have := hl.lt; omega, by have := hl.lt; omega⟩
set_option maxRecDepth 20000 in
set_option maxHeartbeats 1000000 in
theorem peek_bad (ao : Option Addr) (n cap : Nat) (cl c : Int) (xs : List Int) (w : World) (ht : Tab w) (hL : TabL w) (hlie : (n = 0) ∨ ∃ b off, ao = some ⟨b, off, none⟩ ∧ Lies w b off n cap xs) (hlen : xs.length = n) (hB : Bytes xs) (hn : n ≤ 9223372036854775807) (hc : pk xs cl = .error c) :
    Calls Tryz.prog 36 #[.slice ao n cap, .int .i64 cl] w fun e w' => Below w.heap.size w w' ∧ e = .returned (.tuple #[.agg #[.int .i64 0, .int .i64 0, .slice none 0 0, .slice none 0 0, .slice none 0 0, .int .i64 0, .int .i64 0, .int .i64 0, .slice none 0 0, .int .i64 0, .int .i64 0], faultV c]) := by
  have hcl : Calls Tryz.prog 54 #[.pointer (some ⟨w.heap.size + 5, 0, none⟩), .pointer (some ⟨w.heap.size, 0, none⟩), .pointer (some ⟨w.heap.size + 1, 0, none⟩), .pointer (some ⟨w.heap.size + 3, 0, none⟩)] (pkW w ao n cap cl) fun e w' => e = .panicked [leftP c] ∧ Chg (SG (w.heap.size + 5) (w.heap.size + 3)) (pkW w ao n cap cl) w' := by
    refine (pkClos ao n cap cl xs w ht hL hlie hlen hB hn).mono ?_
    rintro e w' ⟨h1, ⟨c', h2, h3⟩ | ⟨K, h2, _⟩⟩
    · rw [hc] at h2; cases h2; exact ⟨h3, h1⟩
    · rw [hc] at h2; cases h2
  obtain ⟨e0, e1, e2, e3, e4, e5⟩ := six_blocks w (.cells #[.slice ao n cap] 22) (.cells #[.int .i64 cl] 3) (.cells #[.int .i64 0, .int .i64 0, .slice none 0 0, .slice none 0 0, .slice none 0 0, .int .i64 0, .int .i64 0, .int .i64 0, .slice none 0 0, .int .i64 0, .int .i64 0] 62) (.cells #[.int .i64 0, .int .i64 0, .slice none 0 0, .slice none 0 0, .slice none 0 0, .int .i64 0, .int .i64 0, .int .i64 0, .slice none 0 0, .int .i64 0, .int .i64 0] 62) (.cells #[.nilIface] 64) (.cells #[.slice ao n cap, .int .i64 0] 118)
  have hb := six_below w (.cells #[.slice ao n cap] 22) (.cells #[.int .i64 cl] 3) (.cells #[.int .i64 0, .int .i64 0, .slice none 0 0, .slice none 0 0, .slice none 0 0, .int .i64 0, .int .i64 0, .int .i64 0, .slice none 0 0, .int .i64 0, .int .i64 0] 62) (.cells #[.int .i64 0, .int .i64 0, .slice none 0 0, .slice none 0 0, .slice none 0 0, .int .i64 0, .int .i64 0, .int .i64 0, .slice none 0 0, .int .i64 0, .int .i64 0] 62) (.cells #[.nilIface] 64) (.cells #[.slice ao n cap, .int .i64 0] 118)
  have hlt4 : w.heap.size + 5 < (pkW w ao n cap cl).heap.size := (Array.getElem?_eq_some_iff.1 e5).1
  have hrd := readBytes_bad ao n cap (.pointer (some ⟨w.heap.size, 0, none⟩)) (.pointer (some ⟨w.heap.size + 1, 0, none⟩)) (.pointer (some ⟨w.heap.size + 3, 0, none⟩)) c
    ((((w.alloc (.cells #[.slice ao n cap] 22)).alloc (.cells #[.int .i64 cl] 3)).alloc (.cells #[.int .i64 0, .int .i64 0, .slice none 0 0, .slice none 0 0, .slice none 0 0, .int .i64 0, .int .i64 0, .int .i64 0, .slice none 0 0, .int .i64 0, .int .i64 0] 62)).alloc (.cells #[.int .i64 0, .int .i64 0, .slice none 0 0, .slice none 0 0, .slice none 0 0, .int .i64 0, .int .i64 0, .int .i64 0, .slice none 0 0, .int .i64 0, .int .i64 0] 62))
    (fun w' => Chg (SG (w.heap.size + 5) (w.heap.size + 3)) (pkW w ao n cap cl) w') (by simpa using hcl) (fun w' hq => by
      have h1 := (hq.block (w.heap.size + 4) (by omega) (fun h => by rcases h with h | h <;> omega)).trans e4
      simpa using h1)
  have hmf : ∀ (fn : Fn) (first cap : Array Value) (w : World), (Instr.makeFunc fn first cap).run Tryz.prog w = .ok (.func fn first cap) w := fun _ _ _ _ => rfl
  have HH : Hid _ := And.intro hb (And.intro e2 hlt4)
  clear hcl e0 e1 e2 e3 e4 e5 hb hlt4 ht hL hlie hlen hB hc
  go_enter Tryz.func36, Tryz.ntmps36
  go_wp2_with fail
  go_at_call 53
  refine hrd.mono ?_
  rintro e w1 ⟨rfl, w', hq, hw1⟩
  have z1 : (.cells #[.int .i64 0, .int .i64 0, .slice none 0 0, .slice none 0 0, .slice none 0 0, .int .i64 0, .int .i64 0, .int .i64 0, .slice none 0 0, .int .i64 0, .int .i64 0] 62 (0, 0) : Obj) = .cells #[.int .i64 0, .int .i64 0, .slice none 0 0, .slice none 0 0, .slice none 0 0, .int .i64 0, .int .i64 0, .int .i64 0, .slice none 0 0, .int .i64 0, .int .i64 0] 62 (0, 0) := rfl
  have hs4 : (((w.alloc (.cells #[.slice ao n cap] 22)).alloc (.cells #[.int .i64 cl] 3)).alloc (.cells #[.int .i64 0, .int .i64 0, .slice none 0 0, .slice none 0 0, .slice none 0 0, .int .i64 0, .int .i64 0, .int .i64 0, .slice none 0 0, .int .i64 0, .int .i64 0] 62)).heap.size + 1 = w.heap.size + 4 := by simp
  have hb1 : Below w.heap.size w w1 := by
    have h1 : Below w.heap.size w w' := HH.out.1.trans (hq.below HH.out.1.size (fun k hk => by rcases hk with hk | hk <;> omega))
    rw [hw1]
    exact (h1.setCell (by simp <;> omega) _).alloc (Nat.le_trans h1.size (by simp [World.setCell])) _
  have e21 : w1.heap[w.heap.size + 2]? = some (.cells #[.int .i64 0, .int .i64 0, .slice none 0 0, .slice none 0 0, .slice none 0 0, .int .i64 0, .int .i64 0, .int .i64 0, .slice none 0 0, .int .i64 0, .int .i64 0] 62 (0, 0)) := by
    have h1 := (hq.block (w.heap.size + 2) (by have := HH.out.2.2; omega) (fun hk => by rcases hk with hk | hk <;> omega)).trans HH.out.2.1
    have h2 : w.heap.size + 2 < w'.heap.size := (Array.getElem?_eq_some_iff.1 h1).1
    rw [hw1, Below.heap_alloc _ _ _ (by simp [World.setCell] <;> omega), bk_other (by simp <;> omega)]
    exact h1
  have HB : Hid _ := And.intro hb1 e21
  have c0 : w1.cell? ⟨w.heap.size + 1 + 1, 0, none⟩ = some (.int .i64 0) := (bk_cell e21 0).trans rfl
  have c1 : w1.cell? ⟨w.heap.size + 1 + 1, 1, none⟩ = some (.int .i64 0) := (bk_cell e21 1).trans rfl
  have c2 : w1.cell? ⟨w.heap.size + 1 + 1, 2, none⟩ = some (.slice none 0 0) := (bk_cell e21 2).trans rfl
  have c3 : w1.cell? ⟨w.heap.size + 1 + 1, 3, none⟩ = some (.slice none 0 0) := (bk_cell e21 3).trans rfl
  have c4 : w1.cell? ⟨w.heap.size + 1 + 1, 4, none⟩ = some (.slice none 0 0) := (bk_cell e21 4).trans rfl
  have c5 : w1.cell? ⟨w.heap.size + 1 + 1, 5, none⟩ = some (.int .i64 0) := (bk_cell e21 5).trans rfl
  have c6 : w1.cell? ⟨w.heap.size + 1 + 1, 6, none⟩ = some (.int .i64 0) := (bk_cell e21 6).trans rfl
  have c7 : w1.cell? ⟨w.heap.size + 1 + 1, 7, none⟩ = some (.int .i64 0) := (bk_cell e21 7).trans rfl
  have c8 : w1.cell? ⟨w.heap.size + 1 + 1, 8, none⟩ = some (.slice none 0 0) := (bk_cell e21 8).trans rfl
  have c9 : w1.cell? ⟨w.heap.size + 1 + 1, 9, none⟩ = some (.int .i64 0) := (bk_cell e21 9).trans rfl
  have c10 : w1.cell? ⟨w.heap.size + 1 + 1, 10, none⟩ = some (.int .i64 0) := (bk_cell e21 10).trans rfl
  have f0 : w1.frozen? ⟨w.heap.size + 1 + 1, 0, none⟩ = false := bk_free e21 0
  have f1 : w1.frozen? ⟨w.heap.size + 1 + 1, 1, none⟩ = false := bk_free e21 1
  have f2 : w1.frozen? ⟨w.heap.size + 1 + 1, 2, none⟩ = false := bk_free e21 2
  have f3 : w1.frozen? ⟨w.heap.size + 1 + 1, 3, none⟩ = false := bk_free e21 3
  have f4 : w1.frozen? ⟨w.heap.size + 1 + 1, 4, none⟩ = false := bk_free e21 4
  have f5 : w1.frozen? ⟨w.heap.size + 1 + 1, 5, none⟩ = false := bk_free e21 5
  have f6 : w1.frozen? ⟨w.heap.size + 1 + 1, 6, none⟩ = false := bk_free e21 6
  have f7 : w1.frozen? ⟨w.heap.size + 1 + 1, 7, none⟩ = false := bk_free e21 7
  have f8 : w1.frozen? ⟨w.heap.size + 1 + 1, 8, none⟩ = false := bk_free e21 8
  have f9 : w1.frozen? ⟨w.heap.size + 1 + 1, 9, none⟩ = false := bk_free e21 9
  have f10 : w1.frozen? ⟨w.heap.size + 1 + 1, 10, none⟩ = false := bk_free e21 10
  clear hb1 e21 hw1 hq hs4 z1
  unfold faultV
  go_wp2_with fail
  refine bodyPost_ret (v := .tuple #[.agg #[.int .i64 0, .int .i64 0, .slice none 0 0, .slice none 0 0, .slice none 0 0, .int .i64 0, .int .i64 0, .int .i64 0, .slice none 0 0, .int .i64 0, .int .i64 0], .iface 93 (.agg #[.int .i64 c])]) ?_ rfl ?_
  · refine results_row_tmpP (t := 62) rfl _ _ (w.heap.size + 1 + 1) _ (fr := (0, 0)) _ _ rfl rfl ?_ Tryz.underlying62 rfl infoPk
    exact st11_heap HB.out.2
  · exact ⟨st11_below HB.out.1 (by omega), rfl⟩
/-- What peekPacket gives for what can be told: the eleven cells. -/
def pkA (K : PK) (vd vs vt vv : Value) : Array Value := #[.int .i64 K.f, .int .i64 K.v, vd, vs, vt, .int .i64 0, .int .i64 0, .int .i64 0, vv, .int .i64 K.na, .int .i64 K.fin]
set_option maxRecDepth 20000 in
set_option maxHeartbeats 1000000 in
theorem peek_ok (ao : Option Addr) (n cap : Nat) (cl : Int) (K : PK) (xs : List Int) (w : World) (ht : Tab w) (hL : TabL w) (hlie : (n = 0) ∨ ∃ b off, ao = some ⟨b, off, none⟩ ∧ Lies w b off n cap xs) (hlen : xs.length = n) (hB : Bytes xs) (hn : n ≤ 9223372036854775807) (hc : pk xs cl = .ok K) :
    Calls Tryz.prog 36 #[.slice ao n cap, .int .i64 cl] w fun e w' => Below w.heap.size w w' ∧ ∃ vd vs vt vv, e = .returned (.tuple #[.agg (pkA K vd vs vt vv), .nilIface]) ∧ HOwn w' w.heap.size vd vs vt ⟨K.f, K.v, K.d, K.s, K.t, 0, 0, 0⟩ ∧ w'.ownsRow w.heap.size 3 1 vv K.vers.length (K.vers.map (Value.int .i64)) := by
  have hcl : Calls Tryz.prog 54 #[.pointer (some ⟨w.heap.size + 5, 0, none⟩), .pointer (some ⟨w.heap.size, 0, none⟩), .pointer (some ⟨w.heap.size + 1, 0, none⟩), .pointer (some ⟨w.heap.size + 3, 0, none⟩)] (pkW w ao n cap cl) fun e w' => e = .returned (.tuple #[]) ∧ (Chg (SG (w.heap.size + 5) (w.heap.size + 3)) (pkW w ao n cap cl) w' ∧ LRes (pkW w ao n cap cl).heap.size w' (w.heap.size + 3) K) := by
    refine (pkClos ao n cap cl xs w ht hL hlie hlen hB hn).mono ?_
    rintro e w' ⟨h1, ⟨c', h2, h3⟩ | ⟨K', h2, h3, h4⟩⟩
    · rw [hc] at h2; cases h2
    · rw [hc] at h2; cases h2; exact ⟨h3, h1, h4⟩
  obtain ⟨e0, e1, e2, e3, e4, e5⟩ := six_blocks w (.cells #[.slice ao n cap] 22) (.cells #[.int .i64 cl] 3) (.cells #[.int .i64 0, .int .i64 0, .slice none 0 0, .slice none 0 0, .slice none 0 0, .int .i64 0, .int .i64 0, .int .i64 0, .slice none 0 0, .int .i64 0, .int .i64 0] 62) (.cells #[.int .i64 0, .int .i64 0, .slice none 0 0, .slice none 0 0, .slice none 0 0, .int .i64 0, .int .i64 0, .int .i64 0, .slice none 0 0, .int .i64 0, .int .i64 0] 62) (.cells #[.nilIface] 64) (.cells #[.slice ao n cap, .int .i64 0] 118)
  have hb := six_below w (.cells #[.slice ao n cap] 22) (.cells #[.int .i64 cl] 3) (.cells #[.int .i64 0, .int .i64 0, .slice none 0 0, .slice none 0 0, .slice none 0 0, .int .i64 0, .int .i64 0, .int .i64 0, .slice none 0 0, .int .i64 0, .int .i64 0] 62) (.cells #[.int .i64 0, .int .i64 0, .slice none 0 0, .slice none 0 0, .slice none 0 0, .int .i64 0, .int .i64 0, .int .i64 0, .slice none 0 0, .int .i64 0, .int .i64 0] 62) (.cells #[.nilIface] 64) (.cells #[.slice ao n cap, .int .i64 0] 118)
  have hlt4 : w.heap.size + 5 < (pkW w ao n cap cl).heap.size := (Array.getElem?_eq_some_iff.1 e5).1
  have hrd := readBytes_ok ao n cap (.pointer (some ⟨w.heap.size, 0, none⟩)) (.pointer (some ⟨w.heap.size + 1, 0, none⟩)) (.pointer (some ⟨w.heap.size + 3, 0, none⟩))
    ((((w.alloc (.cells #[.slice ao n cap] 22)).alloc (.cells #[.int .i64 cl] 3)).alloc (.cells #[.int .i64 0, .int .i64 0, .slice none 0 0, .slice none 0 0, .slice none 0 0, .int .i64 0, .int .i64 0, .int .i64 0, .slice none 0 0, .int .i64 0, .int .i64 0] 62)).alloc (.cells #[.int .i64 0, .int .i64 0, .slice none 0 0, .slice none 0 0, .slice none 0 0, .int .i64 0, .int .i64 0, .int .i64 0, .slice none 0 0, .int .i64 0, .int .i64 0] 62))
    (fun w' => Chg (SG (w.heap.size + 5) (w.heap.size + 3)) (pkW w ao n cap cl) w' ∧ LRes (pkW w ao n cap cl).heap.size w' (w.heap.size + 3) K) (by simpa using hcl) (fun w' hq => by
      have h1 := (hq.1.block (w.heap.size + 4) (by omega) (fun h => by rcases h with h | h <;> omega)).trans e4
      simpa using h1)
  have hmf : ∀ (fn : Fn) (first cap : Array Value) (w : World), (Instr.makeFunc fn first cap).run Tryz.prog w = .ok (.func fn first cap) w := fun _ _ _ _ => rfl
  have HH : Hid _ := And.intro hb (And.intro e2 hlt4)
  clear hcl e0 e1 e2 e3 e4 e5 hb hlt4 ht hL hlie hlen hB hc
  go_enter Tryz.func36, Tryz.ntmps36
  go_wp2_with fail
  go_at_call 53
  refine hrd.mono ?_
  rintro e w1 ⟨rfl, w', ⟨hq, vd, vs, vt, vv, q1, q2, q3⟩, hw1⟩
  have hs4 : (((w.alloc (.cells #[.slice ao n cap] 22)).alloc (.cells #[.int .i64 cl] 3)).alloc (.cells #[.int .i64 0, .int .i64 0, .slice none 0 0, .slice none 0 0, .slice none 0 0, .int .i64 0, .int .i64 0, .int .i64 0, .slice none 0 0, .int .i64 0, .int .i64 0] 62)).heap.size + 1 = w.heap.size + 4 := by simp
  have hbw : Below w.heap.size w w' := HH.out.1.trans (hq.below HH.out.1.size (fun k hk => by rcases hk with hk | hk <;> omega))
  have hW0 : w.heap.size + 5 < (pkW w ao n cap cl).heap.size := HH.out.2.2
  have ho1 : Only (some (w.heap.size + 4)) w' w1 := by
    rw [hw1]
    have := Only.setCell (w := w') ⟨w.heap.size + 4, 0, none⟩ .nilIface
    simpa using this
  have hb1 : Below w.heap.size w w1 := hbw.trans ⟨ho1.os, ho1.tape, ho1.output, Nat.le_of_eq ho1.size.symm, fun k hk => ho1.block k (fun e => by have e' : k = w.heap.size + 4 := Option.some.inj e; omega)⟩
  have e21 : w1.heap[w.heap.size + 2]? = some (.cells #[.int .i64 0, .int .i64 0, .slice none 0 0, .slice none 0 0, .slice none 0 0, .int .i64 0, .int .i64 0, .int .i64 0, .slice none 0 0, .int .i64 0, .int .i64 0] 62 (0, 0)) := (ho1.block (w.heap.size + 2) (fun e => by have e' : w.heap.size + 2 = w.heap.size + 4 := Option.some.inj e; omega)).trans ((hq.block (w.heap.size + 2) (by omega) (fun hk => by rcases hk with hk | hk <;> omega)).trans HH.out.2.1)
  have e31 : pkB w1 (w.heap.size + 3) K.f K.v vd vs vt vv K.na K.fin := (ho1.block (w.heap.size + 3) (fun e => by have e' : w.heap.size + 3 = w.heap.size + 4 := Option.some.inj e; omega)).trans q1
  have hne : ∀ {v : Value} {m t : Nat} {L : List Value}, w'.ownsRow (pkW w ao n cap cl).heap.size t 1 v m L → ∀ q, v.ownBlock = some q → w.heap.size + 5 < q := fun h q hq => by have := (h.lt q hq).1; omega
  have tr : ∀ {v : Value} {m t : Nat} {L : List Value}, w'.ownsRow (pkW w ao n cap cl).heap.size t 1 v m L → w1.ownsRow (pkW w ao n cap cl).heap.size t 1 v m L := fun h => ho1.owns h (fun q hq e => by have h1 := hne h q hq; have e' : q = w.heap.size + 4 := Option.some.inj e; omega)
  obtain ⟨Bs, hBs⟩ : ∃ Bs, Bs = (pkW w ao n cap cl).heap.size := ⟨_, rfl⟩
  rw [← hBs] at tr q2 q3 hW0
  have HO : Hid _ := And.intro (tr q2.o0) (And.intro (tr q2.o1) (And.intro (tr q2.o2) (And.intro (tr q3) (And.intro q2.a01 (And.intro q2.a02 (And.intro q2.a12 hW0))))))
  obtain ⟨da, dp, ed⟩ := (row_of_owns q2.o0).form
  obtain ⟨sa, sp, es⟩ := (row_of_owns q2.o1).form
  obtain ⟨ta, tp, et⟩ := (row_of_owns q2.o2).form
  obtain ⟨va, vp, ev⟩ := (row_of_owns (k := .i64) q3).form
  have HB : Hid _ := And.intro hb1 e21
  have c0 : w1.cell? ⟨w.heap.size + 1 + 1, 0, none⟩ = some (.int .i64 0) := (bk_cell e21 0).trans rfl
  have c1 : w1.cell? ⟨w.heap.size + 1 + 1, 1, none⟩ = some (.int .i64 0) := (bk_cell e21 1).trans rfl
  have c2 : w1.cell? ⟨w.heap.size + 1 + 1, 2, none⟩ = some (.slice none 0 0) := (bk_cell e21 2).trans rfl
  have c3 : w1.cell? ⟨w.heap.size + 1 + 1, 3, none⟩ = some (.slice none 0 0) := (bk_cell e21 3).trans rfl
  have c4 : w1.cell? ⟨w.heap.size + 1 + 1, 4, none⟩ = some (.slice none 0 0) := (bk_cell e21 4).trans rfl
  have c5 : w1.cell? ⟨w.heap.size + 1 + 1, 5, none⟩ = some (.int .i64 0) := (bk_cell e21 5).trans rfl
  have c6 : w1.cell? ⟨w.heap.size + 1 + 1, 6, none⟩ = some (.int .i64 0) := (bk_cell e21 6).trans rfl
  have c7 : w1.cell? ⟨w.heap.size + 1 + 1, 7, none⟩ = some (.int .i64 0) := (bk_cell e21 7).trans rfl
  have c8 : w1.cell? ⟨w.heap.size + 1 + 1, 8, none⟩ = some (.slice none 0 0) := (bk_cell e21 8).trans rfl
  have c9 : w1.cell? ⟨w.heap.size + 1 + 1, 9, none⟩ = some (.int .i64 0) := (bk_cell e21 9).trans rfl
  have c10 : w1.cell? ⟨w.heap.size + 1 + 1, 10, none⟩ = some (.int .i64 0) := (bk_cell e21 10).trans rfl
  have f0 : w1.frozen? ⟨w.heap.size + 1 + 1, 0, none⟩ = false := bk_free e21 0
  have f1 : w1.frozen? ⟨w.heap.size + 1 + 1, 1, none⟩ = false := bk_free e21 1
  have f2 : w1.frozen? ⟨w.heap.size + 1 + 1, 2, none⟩ = false := bk_free e21 2
  have f3 : w1.frozen? ⟨w.heap.size + 1 + 1, 3, none⟩ = false := bk_free e21 3
  have f4 : w1.frozen? ⟨w.heap.size + 1 + 1, 4, none⟩ = false := bk_free e21 4
  have f5 : w1.frozen? ⟨w.heap.size + 1 + 1, 5, none⟩ = false := bk_free e21 5
  have f6 : w1.frozen? ⟨w.heap.size + 1 + 1, 6, none⟩ = false := bk_free e21 6
  have f7 : w1.frozen? ⟨w.heap.size + 1 + 1, 7, none⟩ = false := bk_free e21 7
  have f8 : w1.frozen? ⟨w.heap.size + 1 + 1, 8, none⟩ = false := bk_free e21 8
  have f9 : w1.frozen? ⟨w.heap.size + 1 + 1, 9, none⟩ = false := bk_free e21 9
  have f10 : w1.frozen? ⟨w.heap.size + 1 + 1, 10, none⟩ = false := bk_free e21 10
  have p0 : w1.cell? ⟨w.heap.size + 1 + 1 + 1, 0, none⟩ = some (.int .i64 K.f) := (bk_cell e31 0).trans rfl
  have p1 : w1.cell? ⟨w.heap.size + 1 + 1 + 1, 1, none⟩ = some (.int .i64 K.v) := (bk_cell e31 1).trans rfl
  have p2 : w1.cell? ⟨w.heap.size + 1 + 1 + 1, 2, none⟩ = some (vd) := (bk_cell e31 2).trans rfl
  have p3 : w1.cell? ⟨w.heap.size + 1 + 1 + 1, 3, none⟩ = some (vs) := (bk_cell e31 3).trans rfl
  have p4 : w1.cell? ⟨w.heap.size + 1 + 1 + 1, 4, none⟩ = some (vt) := (bk_cell e31 4).trans rfl
  have p5 : w1.cell? ⟨w.heap.size + 1 + 1 + 1, 5, none⟩ = some (.int .i64 0) := (bk_cell e31 5).trans rfl
  have p6 : w1.cell? ⟨w.heap.size + 1 + 1 + 1, 6, none⟩ = some (.int .i64 0) := (bk_cell e31 6).trans rfl
  have p7 : w1.cell? ⟨w.heap.size + 1 + 1 + 1, 7, none⟩ = some (.int .i64 0) := (bk_cell e31 7).trans rfl
  have p8 : w1.cell? ⟨w.heap.size + 1 + 1 + 1, 8, none⟩ = some (vv) := (bk_cell e31 8).trans rfl
  have p9 : w1.cell? ⟨w.heap.size + 1 + 1 + 1, 9, none⟩ = some (.int .i64 K.na) := (bk_cell e31 9).trans rfl
  have p10 : w1.cell? ⟨w.heap.size + 1 + 1 + 1, 10, none⟩ = some (.int .i64 K.fin) := (bk_cell e31 10).trans rfl
  clear hb1 e21 hw1 hq hs4 e31 hne tr q1 q2 q3 hbw ho1 hW0 hBs
  subst ed es et ev
  go_wp2_with fail
  have hg2 : w.heap.size + 1 + 1 < Bs := by have := HO.out.2.2.2.2.2.2.2; omega
  have hm2 : w.heap.size ≤ Bs := by omega
  refine bodyPost_ret (v := .tuple #[.agg #[.int .i64 K.f, .int .i64 K.v, .slice da K.d.length dp, .slice sa K.s.length sp, .slice ta K.t.length tp, .int .i64 0, .int .i64 0, .int .i64 0, .slice va K.vers.length vp, .int .i64 K.na, .int .i64 K.fin], .nilIface]) ?_ rfl ?_
  · refine results_row_tmpP (t := 62) rfl _ _ (w.heap.size + 1 + 1) _ (fr := (0, 0)) _ _ rfl rfl ?_ Tryz.underlying62 rfl infoPk
    exact st11_heap HB.out.2
  · refine ⟨st11_below HB.out.1 (by omega), .slice da K.d.length dp, .slice sa K.s.length sp, .slice ta K.t.length tp, .slice va K.vers.length vp, rfl, ⟨?_, ?_, ?_, HO.out.2.2.2.2.1, HO.out.2.2.2.2.2.1, HO.out.2.2.2.2.2.2.1⟩, ?_⟩
    · exact owns_mono (st11_owns HO.out.1 hg2) hm2
    · exact owns_mono (st11_owns HO.out.2.1 hg2) hm2
    · exact owns_mono (st11_owns HO.out.2.2.1 hg2) hm2
    · exact owns_mono (st11_owns HO.out.2.2.2.1 hg2) hm2
end Go.Proofs.YtoalillggafnpaaGreatDoor

namespace Go.Proofs.YtoalillggafnpaaGreatDoor
open Go.RowKit
set_option linter.unusedVariables false

set_option maxHeartbeats 400000 in
theorem value_core (n : Nat) (xs : List Int) (b off cap : Nat) (w : World) (hn : n ≤ 8) (hl : xs.length = n) (hb : Bytes xs) (hv : vals xs ≤ 9223372036854775807)
    (hc : ∀ j, j < n → w.cell? ⟨b, off + j, none⟩ = some (.int .u8 (xs.getD j 0))) :
    Calls Tryz.prog 90 #[.slice (some ⟨b, off, none⟩) n cap] w fun e w' => e = .returned (.int .i64 (vals xs)) ∧ w' = w := by
  have HC : Hid (∀ j, j < n → w.cell? ⟨b, off + j, none⟩ = some (.int .u8 (xs.getD j 0))) := hc
  have HB : Hid (Bytes xs ∧ xs.length = n ∧ vals xs ≤ 9223372036854775807) := ⟨hb, hl, hv⟩
  clear hc hb hl hv
  go_enter Tryz.func90, Tryz.ntmps90
  go_wp2
  go_loop [3, 4] (fun s i => ∃ k : Nat, k ≤ n ∧ i = .int .i64 k ∧ s = .int .i64 (vals (xs.take k))) (fun _ i => n - (intOf i).toNat)
  case atStart => exact ⟨0, Nat.zero_le _, rfl, by simp [vals]⟩
  case round =>
    obtain ⟨k, hk, rfl, rfl⟩ := hrel
    by_cases hlt : k < n
    · have c1 := HC.out k hlt
      have x1 := HB.out.1.at k
      have a1 := vals_take_le xs HB.out.1 (k + 1)
      have a2 := HB.out.2.2
      have a0 := vals_nonneg _ (HB.out.1.take k)
      have hs : vals (xs.take (k + 1)) = vals (xs.take k) * 256 + xs.getD k 0 := vals_snoc xs k (by rw [HB.out.2.1]; exact hlt)
      have a3 : vals (xs.take k) * 256 + xs.getD k 0 ≤ 9223372036854775807 := by omega
      have HS : Hid (vals (xs.take (k + 1)) = vals (xs.take k) * 256 + xs.getD k 0) := hs
      clear a1 a2 hs
      obtain ⟨x, hx⟩ : ∃ x, x = xs.getD k 0 := ⟨_, rfl⟩
      obtain ⟨a, ha⟩ : ∃ a, a = vals (xs.take k) := ⟨_, rfl⟩
      rw [← hx] at c1 x1 HS a3
      rw [← ha] at a0 HS a3 ⊢
      clear hx ha
      go_wp2
      go_round
      case rel => exact ⟨k + 1, by omega, by go_num, by rw [HS.out]⟩
      case measure => simp [intOf]; omega
    · go_wp2
      go_ret
      obtain rfl : k = n := by omega
      have : xs.take k = xs := by rw [← HB.out.2.1, List.take_length]
      rw [← this]
      exact ⟨by rw [List.take_take, Nat.min_self]; rfl, rfl⟩
end Go.Proofs.YtoalillggafnpaaGreatDoor

namespace Go.Proofs.YtoalillggafnpaaGreatDoor
open Go.RowKit
set_option linter.unusedVariables false

theorem specGV_long (ao : Option Addr) (n cap : Nat) (a : Int) (w : World) (h : 65536 < n) (hm : n ≤ 9223372036854775807) :
    Calls Tryz.prog 91 #[.slice ao n cap, .int .i64 a] w fun e w' => e = .returned (.tuple #[.int .i64 0, .int .i64 0, .int .i64 4]) ∧ w' = w := by
  go_enter Tryz.func91, Tryz.ntmps91
  go_wp2
  go_ret3
  exact ⟨rfl, rfl⟩
theorem specGV_bad (ao : Option Addr) (n cap : Nat) (a : Int) (w : World) (h : n ≤ 65536) (hb : a < 0 ∨ (n : Int) < a) :
    Calls Tryz.prog 91 #[.slice ao n cap, .int .i64 a] w fun e w' => e = .returned (.tuple #[.int .i64 0, .int .i64 0, .int .i64 1]) ∧ w' = w := by
  by_cases h1 : a < 0
  · clear hb
    go_enter Tryz.func91, Tryz.ntmps91
    go_wp2
    go_ret3
    exact ⟨rfl, rfl⟩
  · have h2 : (n : Int) < a := by omega
    clear hb
    go_enter Tryz.func91, Tryz.ntmps91
    go_wp2
    go_ret3
    exact ⟨rfl, rfl⟩
theorem specGV_end (ao : Option Addr) (n cap : Nat) (w : World) (h : n ≤ 65536) :
    Calls Tryz.prog 91 #[.slice ao n cap, .int .i64 (n : Int)] w fun e w' => e = .returned (.tuple #[.int .i64 0, .int .i64 0, .int .i64 2]) ∧ w' = w := by
  go_enter Tryz.func91, Tryz.ntmps91
  go_wp2
  go_ret3
  exact ⟨rfl, rfl⟩
set_option maxHeartbeats 1000000 in
theorem specGV_1 (b off n cap a : Nat) (x0 : Int) (w : World) (h : n ≤ 65536) (h1 : a + 1 ≤ n) (c0 : w.cell? ⟨b, off + a, none⟩ = some (.int .u8 x0)) (l0 : 0 ≤ x0) (u0 : x0 < 256) (hf : x0 / 64 = 0) :
    Calls Tryz.prog 91 #[.slice (some ⟨b, off, none⟩) n cap, .int .i64 (a : Int)] w fun e w' => e = .returned (.tuple #[.int .i64 (x0 % 64), .int .i64 ((a : Int) + 1), .int .i64 0]) ∧ w' = w := by
  have hne : ((a : Int) == (n : Int)) = false := by rw [beq_eq_false_iff_ne]; omega
  go_enter Tryz.func91, Tryz.ntmps91
  go_wp2
  refine wp_loop_rounds 1 ?_
  rw [rounds_succ]
  go_wp2
  refine wp_loop_rounds 1 ?_
  rw [rounds_succ]
  go_wp2
  go_ret3
  exact ⟨rfl, rfl⟩
set_option maxHeartbeats 1000000 in
theorem specGV_2 (b off n cap a : Nat) (x0 x1 : Int) (w : World) (h : n ≤ 65536) (h1 : a + 2 ≤ n) (c0 : w.cell? ⟨b, off + a, none⟩ = some (.int .u8 x0)) (c1 : w.cell? ⟨b, off + (a + 1), none⟩ = some (.int .u8 x1)) (l0 : 0 ≤ x0) (u0 : x0 < 256) (l1 : 0 ≤ x1) (u1 : x1 < 256) (hf : x0 / 64 = 1) :
    Calls Tryz.prog 91 #[.slice (some ⟨b, off, none⟩) n cap, .int .i64 (a : Int)] w fun e w' => e = .returned (.tuple #[.int .i64 (x0 % 64 * 256 + x1), .int .i64 ((a : Int) + 2), .int .i64 0]) ∧ w' = w := by
  have hne : ((a : Int) == (n : Int)) = false := by rw [beq_eq_false_iff_ne]; omega
  go_enter Tryz.func91, Tryz.ntmps91
  go_wp2
  refine wp_loop_rounds 2 ?_
  rw [rounds_succ]
  go_wp2
  rw [rounds_succ]
  go_wp2
  refine wp_loop_rounds 2 ?_
  rw [rounds_succ]
  go_wp2
  rw [rounds_succ]
  go_wp2
  go_ret3
  exact ⟨rfl, rfl⟩
theorem specGV_short_2 (b off n cap a : Nat) (x0 : Int) (w : World) (h : n ≤ 65536) (h0 : a < n) (h1 : n < a + 2) (c0 : w.cell? ⟨b, off + a, none⟩ = some (.int .u8 x0)) (l0 : 0 ≤ x0) (u0 : x0 < 256) (hf : x0 / 64 = 1) :
    Calls Tryz.prog 91 #[.slice (some ⟨b, off, none⟩) n cap, .int .i64 (a : Int)] w fun e w' => e = .returned (.tuple #[.int .i64 0, .int .i64 0, .int .i64 2]) ∧ w' = w := by
  have hne : ((a : Int) == (n : Int)) = false := by rw [beq_eq_false_iff_ne]; omega
  go_enter Tryz.func91, Tryz.ntmps91
  go_wp2
  refine wp_loop_rounds 2 ?_
  rw [rounds_succ]
  go_wp2
  rw [rounds_succ]
  go_wp2
  go_ret3
  exact ⟨rfl, rfl⟩
set_option maxHeartbeats 1000000 in
theorem specGV_4 (b off n cap a : Nat) (x0 x1 x2 x3 : Int) (w : World) (h : n ≤ 65536) (h1 : a + 4 ≤ n) (c0 : w.cell? ⟨b, off + a, none⟩ = some (.int .u8 x0)) (c1 : w.cell? ⟨b, off + (a + 1), none⟩ = some (.int .u8 x1)) (c2 : w.cell? ⟨b, off + (a + 2), none⟩ = some (.int .u8 x2)) (c3 : w.cell? ⟨b, off + (a + 3), none⟩ = some (.int .u8 x3)) (l0 : 0 ≤ x0) (u0 : x0 < 256) (l1 : 0 ≤ x1) (u1 : x1 < 256) (l2 : 0 ≤ x2) (u2 : x2 < 256) (l3 : 0 ≤ x3) (u3 : x3 < 256) (hf : x0 / 64 = 2) :
    Calls Tryz.prog 91 #[.slice (some ⟨b, off, none⟩) n cap, .int .i64 (a : Int)] w fun e w' => e = .returned (.tuple #[.int .i64 (((x0 % 64 * 256 + x1) * 256 + x2) * 256 + x3), .int .i64 ((a : Int) + 4), .int .i64 0]) ∧ w' = w := by
  have hne : ((a : Int) == (n : Int)) = false := by rw [beq_eq_false_iff_ne]; omega
  go_enter Tryz.func91, Tryz.ntmps91
  go_wp2
  refine wp_loop_rounds 3 ?_
  rw [rounds_succ]
  go_wp2
  rw [rounds_succ]
  go_wp2
  rw [rounds_succ]
  go_wp2
  refine wp_loop_rounds 4 ?_
  rw [rounds_succ]
  go_wp2
  rw [rounds_succ]
  go_wp2
  rw [rounds_succ]
  go_wp2
  rw [rounds_succ]
  go_wp2
  go_ret3
  exact ⟨rfl, rfl⟩
theorem specGV_short_4 (b off n cap a : Nat) (x0 : Int) (w : World) (h : n ≤ 65536) (h0 : a < n) (h1 : n < a + 4) (c0 : w.cell? ⟨b, off + a, none⟩ = some (.int .u8 x0)) (l0 : 0 ≤ x0) (u0 : x0 < 256) (hf : x0 / 64 = 2) :
    Calls Tryz.prog 91 #[.slice (some ⟨b, off, none⟩) n cap, .int .i64 (a : Int)] w fun e w' => e = .returned (.tuple #[.int .i64 0, .int .i64 0, .int .i64 2]) ∧ w' = w := by
  have hne : ((a : Int) == (n : Int)) = false := by rw [beq_eq_false_iff_ne]; omega
  go_enter Tryz.func91, Tryz.ntmps91
  go_wp2
  refine wp_loop_rounds 3 ?_
  rw [rounds_succ]
  go_wp2
  rw [rounds_succ]
  go_wp2
  rw [rounds_succ]
  go_wp2
  go_ret3
  exact ⟨rfl, rfl⟩
set_option maxHeartbeats 1000000 in
theorem specGV_8 (b off n cap a : Nat) (x0 x1 x2 x3 x4 x5 x6 x7 : Int) (w : World) (h : n ≤ 65536) (h1 : a + 8 ≤ n) (c0 : w.cell? ⟨b, off + a, none⟩ = some (.int .u8 x0)) (c1 : w.cell? ⟨b, off + (a + 1), none⟩ = some (.int .u8 x1)) (c2 : w.cell? ⟨b, off + (a + 2), none⟩ = some (.int .u8 x2)) (c3 : w.cell? ⟨b, off + (a + 3), none⟩ = some (.int .u8 x3)) (c4 : w.cell? ⟨b, off + (a + 4), none⟩ = some (.int .u8 x4)) (c5 : w.cell? ⟨b, off + (a + 5), none⟩ = some (.int .u8 x5)) (c6 : w.cell? ⟨b, off + (a + 6), none⟩ = some (.int .u8 x6)) (c7 : w.cell? ⟨b, off + (a + 7), none⟩ = some (.int .u8 x7)) (l0 : 0 ≤ x0) (u0 : x0 < 256) (l1 : 0 ≤ x1) (u1 : x1 < 256) (l2 : 0 ≤ x2) (u2 : x2 < 256) (l3 : 0 ≤ x3) (u3 : x3 < 256) (l4 : 0 ≤ x4) (u4 : x4 < 256) (l5 : 0 ≤ x5) (u5 : x5 < 256) (l6 : 0 ≤ x6) (u6 : x6 < 256) (l7 : 0 ≤ x7) (u7 : x7 < 256) (hf : x0 / 64 = 3) :
    Calls Tryz.prog 91 #[.slice (some ⟨b, off, none⟩) n cap, .int .i64 (a : Int)] w fun e w' => e = .returned (.tuple #[.int .i64 (((((((x0 % 64 * 256 + x1) * 256 + x2) * 256 + x3) * 256 + x4) * 256 + x5) * 256 + x6) * 256 + x7), .int .i64 ((a : Int) + 8), .int .i64 0]) ∧ w' = w := by
  have hne : ((a : Int) == (n : Int)) = false := by rw [beq_eq_false_iff_ne]; omega
  go_enter Tryz.func91, Tryz.ntmps91
  go_wp2
  refine wp_loop_rounds 4 ?_
  rw [rounds_succ]
  go_wp2
  rw [rounds_succ]
  go_wp2
  rw [rounds_succ]
  go_wp2
  rw [rounds_succ]
  go_wp2
  refine wp_loop_rounds 8 ?_
  rw [rounds_succ]
  go_wp2
  rw [rounds_succ]
  go_wp2
  rw [rounds_succ]
  go_wp2
  rw [rounds_succ]
  go_wp2
  rw [rounds_succ]
  go_wp2
  rw [rounds_succ]
  go_wp2
  rw [rounds_succ]
  go_wp2
  rw [rounds_succ]
  go_wp2
  go_ret3
  exact ⟨rfl, rfl⟩
theorem specGV_short_8 (b off n cap a : Nat) (x0 : Int) (w : World) (h : n ≤ 65536) (h0 : a < n) (h1 : n < a + 8) (c0 : w.cell? ⟨b, off + a, none⟩ = some (.int .u8 x0)) (l0 : 0 ≤ x0) (u0 : x0 < 256) (hf : x0 / 64 = 3) :
    Calls Tryz.prog 91 #[.slice (some ⟨b, off, none⟩) n cap, .int .i64 (a : Int)] w fun e w' => e = .returned (.tuple #[.int .i64 0, .int .i64 0, .int .i64 2]) ∧ w' = w := by
  have hne : ((a : Int) == (n : Int)) = false := by rw [beq_eq_false_iff_ne]; omega
  go_enter Tryz.func91, Tryz.ntmps91
  go_wp2
  refine wp_loop_rounds 4 ?_
  rw [rounds_succ]
  go_wp2
  rw [rounds_succ]
  go_wp2
  rw [rounds_succ]
  go_wp2
  rw [rounds_succ]
  go_wp2
  go_ret3
  exact ⟨rfl, rfl⟩
theorem specGetVar (v : Value) (xs : List Int) (a : Int) (w : World) (hrow : Row w .u8 v xs) (hB : Bytes xs) (hm : xs.length ≤ 9223372036854775807) :
    Calls Tryz.prog 91 #[v, .int .i64 a] w fun e w' => e = .returned (.tuple #[.int .i64 (gv xs a).1, .int .i64 (gv xs a).2.1, .int .i64 (gv xs a).2.2]) ∧ w' = w := by
  by_cases h16 : 65536 < xs.length
  · have e : gv xs a = (0, 0, 4) := by unfold gv; rw [if_pos h16]
    rw [e]
    obtain ⟨ao, cap, rfl⟩ := hrow.form
    exact specGV_long ao _ cap a w h16 hm
  · by_cases hbad : a < 0 ∨ (xs.length : Int) < a
    · have e : gv xs a = (0, 0, 1) := by unfold gv; rw [if_neg h16, if_pos hbad]
      rw [e]
      obtain ⟨ao, cap, rfl⟩ := hrow.form
      exact specGV_bad ao _ cap a w (by omega) hbad
    · by_cases hend : a = xs.length
      · have e : gv xs a = (0, 0, 2) := by unfold gv; rw [if_neg h16, if_neg hbad, if_pos hend]
        rw [e]
        obtain ⟨ao, cap, rfl⟩ := hrow.form
        subst hend
        exact specGV_end ao _ cap w (by omega)
      · obtain ⟨i, rfl⟩ := Int.eq_ofNat_of_zero_le (show 0 ≤ a by omega)
        have hi : i < xs.length := by omega
        obtain ⟨b, off, cap, rfl, hb, hcap, hc⟩ := hrow.full (by omega)
        have hx := hB.at i
        have c0 := hc i hi
        by_cases hs : xs.length < i + gvn (xs.getD i 0)
        · rw [gv_short xs i (by omega) hi hs]
          rcases gv_form _ hx.1 hx.2 with ⟨hf, hn, _⟩ | ⟨hf, hn, _⟩ | ⟨hf, hn, _⟩ | ⟨hf, hn, _⟩
          · rw [hn] at hs; omega
          · rw [hn] at hs; exact specGV_short_2 b off _ cap i _ w (by omega) hi hs c0 hx.1 hx.2 hf
          · rw [hn] at hs; exact specGV_short_4 b off _ cap i _ w (by omega) hi hs c0 hx.1 hx.2 hf
          · rw [hn] at hs; exact specGV_short_8 b off _ cap i _ w (by omega) hi hs c0 hx.1 hx.2 hf
        · rw [gv_ok xs i (by omega) hi (by omega)]
          rcases gv_form _ hx.1 hx.2 with ⟨hf, hn, hmm⟩ | ⟨hf, hn, hmm⟩ | ⟨hf, hn, hmm⟩ | ⟨hf, hn, hmm⟩
          · rw [hn, hmm]
            rw [hn] at hs
            have hsl := sub_length xs i 1 (by omega)
            rw [vals_1 _ hsl, sub_at xs i 1 0 (by decide), Nat.add_zero, low_1 _ (hB.at i).1 (hB.at i).2 hf]
            exact specGV_1 b off _ cap i _ w (by omega) (by omega) c0 (hB.at i).1 (hB.at i).2 hf
          · rw [hn, hmm]
            rw [hn] at hs
            have hsl := sub_length xs i 2 (by omega)
            rw [vals_2 _ hsl, sub_at xs i 2 0 (by decide), sub_at xs i 2 1 (by decide), Nat.add_zero, low_2 _ _ (hB.at i).1 (hB.at i).2 (hB.at (i + 1)).1 (hB.at (i + 1)).2 hf]
            exact specGV_2 b off _ cap i _ _ w (by omega) (by omega) c0 (hc (i + 1) (by omega)) (hB.at i).1 (hB.at i).2 (hB.at (i + 1)).1 (hB.at (i + 1)).2 hf
          · rw [hn, hmm]
            rw [hn] at hs
            have hsl := sub_length xs i 4 (by omega)
            rw [vals_4 _ hsl, sub_at xs i 4 0 (by decide), sub_at xs i 4 1 (by decide), sub_at xs i 4 2 (by decide), sub_at xs i 4 3 (by decide), Nat.add_zero, low_4 _ _ _ _ (hB.at i).1 (hB.at i).2 (hB.at (i + 1)).1 (hB.at (i + 1)).2 (hB.at (i + 2)).1 (hB.at (i + 2)).2 (hB.at (i + 3)).1 (hB.at (i + 3)).2 hf]
            exact specGV_4 b off _ cap i _ _ _ _ w (by omega) (by omega) c0 (hc (i + 1) (by omega)) (hc (i + 2) (by omega)) (hc (i + 3) (by omega)) (hB.at i).1 (hB.at i).2 (hB.at (i + 1)).1 (hB.at (i + 1)).2 (hB.at (i + 2)).1 (hB.at (i + 2)).2 (hB.at (i + 3)).1 (hB.at (i + 3)).2 hf
          · rw [hn, hmm]
            rw [hn] at hs
            have hsl := sub_length xs i 8 (by omega)
            rw [vals_8 _ hsl, sub_at xs i 8 0 (by decide), sub_at xs i 8 1 (by decide), sub_at xs i 8 2 (by decide), sub_at xs i 8 3 (by decide), sub_at xs i 8 4 (by decide), sub_at xs i 8 5 (by decide), sub_at xs i 8 6 (by decide), sub_at xs i 8 7 (by decide), Nat.add_zero, low_8 _ _ _ _ _ _ _ _ (hB.at i).1 (hB.at i).2 (hB.at (i + 1)).1 (hB.at (i + 1)).2 (hB.at (i + 2)).1 (hB.at (i + 2)).2 (hB.at (i + 3)).1 (hB.at (i + 3)).2 (hB.at (i + 4)).1 (hB.at (i + 4)).2 (hB.at (i + 5)).1 (hB.at (i + 5)).2 (hB.at (i + 6)).1 (hB.at (i + 6)).2 (hB.at (i + 7)).1 (hB.at (i + 7)).2 hf]
            exact specGV_8 b off _ cap i _ _ _ _ _ _ _ _ w (by omega) (by omega) c0 (hc (i + 1) (by omega)) (hc (i + 2) (by omega)) (hc (i + 3) (by omega)) (hc (i + 4) (by omega)) (hc (i + 5) (by omega)) (hc (i + 6) (by omega)) (hc (i + 7) (by omega)) (hB.at i).1 (hB.at i).2 (hB.at (i + 1)).1 (hB.at (i + 1)).2 (hB.at (i + 2)).1 (hB.at (i + 2)).2 (hB.at (i + 3)).1 (hB.at (i + 3)).2 (hB.at (i + 4)).1 (hB.at (i + 4)).2 (hB.at (i + 5)).1 (hB.at (i + 5)).2 (hB.at (i + 6)).1 (hB.at (i + 6)).2 (hB.at (i + 7)).1 (hB.at (i + 7)).2 hf
end Go.Proofs.YtoalillggafnpaaGreatDoor

namespace Go.Proofs.YtoalillggafnpaaGreatDoor
open Go.RowKit
set_option linter.unusedVariables false

theorem cid_spec {xs d : List Int} {p q : Nat} (h : pkCid xs p = .ok (d, q)) : q = p + 1 + d.length ∧ q ≤ xs.length := by
  unfold pkCid at h
  split at h
  · cases h
  · split at h
    · cases h
    · split at h
      · cases h
      · rename_i h1 h2 h3
        cases h
        rw [sub_len xs (p + 1) _ (by omega)]
        exact ⟨rfl, by omega⟩
theorem cid_err {xs : List Int} {p : Nat} {c : Int} (h : pkCid xs p = .error c) : c ≠ 0 := by
  unfold pkCid at h
  split at h
  · cases h; decide
  · split at h
    · cases h; decide
    · split at h
      · cases h; decide
      · cases h
theorem ver_err {xs : List Int} {p : Nat} {c : Int} (h : pkVer xs p = .error c) : c ≠ 0 := by
  unfold pkVer at h
  split at h
  · cases h; decide
  · split at h
    · cases h
    · cases h; decide
theorem ret_err {xs : List Int} {p : Nat} {c : Int} (h : pkRet xs p = .error c) : c ≠ 0 := by
  unfold pkRet at h
  split at h
  · cases h; decide
  · split at h
    · cases h; decide
    · cases h
theorem beh_err {xs : List Int} {p : Nat} {c : Int} (h : pkBeh xs p = .error c) : c ≠ 0 := by
  unfold pkBeh at h
  split at h
  · split at h
    · cases h; decide
    · split at h
      · cases h; decide
      · cases h
  · cases h; decide
theorem ini_err {xs d s : List Int} {v c : Int} {p : Nat} (h : pkIni xs v d s p = .error c) : c ≠ 0 := by
  unfold pkIni at h
  split at h
  · split at h
    · cases h; decide
    · split at h
      · cases h; decide
      · split at h
        · rename_i hb; cases h; exact beh_err hb
        · cases h
  · cases h; decide
theorem tail_err {xs d s : List Int} {f v c : Int} {p : Nat} (h : pkTail xs f v d s p = .error c) : c ≠ 0 := by
  unfold pkTail at h
  split at h
  · split at h
    · cases h; decide
    · split at h
      · rename_i hb; cases h; exact ver_err hb
      · cases h
  · split at h
    · split at h
      · rename_i hb; cases h; exact ret_err hb
      · cases h
    · split at h
      · exact ini_err h
      · split at h
        · split at h
          · rename_i hb; cases h; exact beh_err hb
          · cases h
        · cases h; decide
theorem long_err {xs : List Int} {f c : Int} (h : pkLong xs f = .error c) : c ≠ 0 := by
  unfold pkLong at h
  split at h
  · cases h; decide
  · split at h
    · rename_i hb; cases h; exact cid_err hb
    · split at h
      · rename_i hb; cases h; exact cid_err hb
      · exact tail_err h
theorem pk_err {xs : List Int} {cl c : Int} (h : pk xs cl = .error c) : c ≠ 0 := by
  unfold pk at h
  split at h
  · cases h; decide
  · split at h
    · cases h; decide
    · split at h
      · cases h; decide
      · split at h
        · cases h; decide
        · split at h
          · unfold pkShP at h
            split at h
            · rename_i hb
              cases h
              unfold pkSho at hb
              split at hb
              · cases hb; decide
              · cases hb
            · cases h
          · exact long_err h
theorem ini_form {xs d s : List Int} {v : Int} {p : Nat} {K : PK} (h : pkIni xs v d s p = .ok K) : K.f = 1 := by
  unfold pkIni at h
  split at h
  · split at h
    · cases h
    · split at h
      · cases h
      · split at h
        · cases h
        · cases h; rfl
  · cases h
theorem tail_vers {xs d s : List Int} {f v : Int} {p : Nat} {K : PK} (h : pkTail xs f v d s p = .ok K) (h5 : K.f = 5) : pkVer xs p = .ok K.vers ∧ K.d = d ∧ K.s = s := by
  unfold pkTail at h
  split at h
  · split at h
    · cases h
    · split at h
      · cases h
      · rename_i hb; cases h; exact ⟨hb, rfl, rfl⟩
  · split at h
    · split at h
      · cases h
      · cases h; simp at h5
    · split at h
      · have := ini_form h; omega
      · split at h
        · split at h
          · cases h
          · cases h; simp at h5
        · cases h
theorem pk_vers {xs : List Int} {cl : Int} {K : PK} (h : pk xs cl = .ok K) (h5 : K.f = 5) : pkVer xs (7 + K.d.length + K.s.length) = .ok K.vers ∧ 7 + K.d.length + K.s.length ≤ xs.length ∧ xs.length ≤ 65536 := by
  unfold pk at h
  split at h
  · cases h
  · rename_i h16
    split at h
    · cases h
    · split at h
      · cases h
      · split at h
        · cases h
        · split at h
          · unfold pkShP at h
            split at h
            · cases h
            · cases h; simp at h5
          · unfold pkLong at h
            split at h
            · cases h
            · split at h
              · cases h
              · rename_i d p1 hc1
                split at h
                · cases h
                · rename_i s p2 hc2
                  obtain ⟨t1, t2, t3⟩ := tail_vers h h5
                  obtain ⟨a1, a2⟩ := cid_spec hc1
                  obtain ⟨b1, b2⟩ := cid_spec hc2
                  rw [t2, t3]
                  have e : p2 = 7 + d.length + s.length := by omega
                  rw [← e]
                  exact ⟨t1, by omega, by omega⟩
end Go.Proofs.YtoalillggafnpaaGreatDoor
