import Derived.Test.YtdommkpeilmdnaaDoorAppRow
import Derived.Test.YtdommkpeilmdnaaDoorBlocks
import Derived.Test.YtdommkpeilmdnaaDoorBook
import Derived.WalkLawsBesides
import Derived.Deep.RegionLaw
namespace Go.Proofs.YtdommkpeilmdnaaDoor
open Go.RowKit
set_option linter.unusedVariables false

/-- What a reader is left with: the panic's value for a code. -/
def leftV (c : Int) : Value := .iface 73 (.agg #[.iface 79 (.agg #[.int .i64 c])])
def leftP (c : Int) : PanicEntry := { v := leftV c, recovered := false }
theorem leaveC (r : Value) (c : Int) (w : World) : Calls Tryd.prog 43 #[r, .int .i64 c] w fun e w' => e = .panicked [leftP c] ∧ w' = w := by
  go_enter Tryd.func43, Tryd.ntmps43
  go_wp2
  exact ⟨rfl, rfl, rfl⟩
theorem leaveIf_t (r : Value) (c : Int) (w : World) : Calls Tryd.prog 25 #[r, .bool true, .int .i64 c] w fun e w' => e = .panicked [leftP c] ∧ w' = w := by
  go_enter Tryd.func25, Tryd.ntmps25
  go_wp2_with fail
  go_at_call 43
  refine (leaveC r c w).mono ?_
  rintro e w' ⟨rfl, rfl⟩
  go_wp2
  exact ⟨rfl, rfl, rfl⟩
theorem leaveIf_f (r : Value) (c : Int) (w : World) : Calls Tryd.prog 25 #[r, .bool false, .int .i64 c] w fun e w' => e = .returned (.tuple #[]) ∧ w' = w := by
  go_enter Tryd.func25, Tryd.ntmps25
  go_wp2
  go_end0
  exact ⟨rfl, rfl⟩
/-- The reader's block. -/
def rdB (w : World) (g : Nat) (vb : Value) (p : Int) : Prop := w.heap[g]? = some (.cells #[vb, .int .i64 p] 54 (0, 0))
theorem rdB.c0 {w : World} {g : Nat} {vb : Value} {p : Int} (h : rdB w g vb p) : w.cell? ⟨g, 0, none⟩ = some vb := (bk_cell h 0).trans rfl
theorem rdB.c1 {w : World} {g : Nat} {vb : Value} {p : Int} (h : rdB w g vb p) : w.cell? ⟨g, 1, none⟩ = some (.int .i64 p) := (bk_cell h 1).trans rfl
theorem rdB.fr {w : World} {g : Nat} {vb : Value} {p : Int} (h : rdB w g vb p) (o : Nat) : w.frozen? ⟨g, o, none⟩ = false := bk_free h o
theorem rdB.lt {w : World} {g : Nat} {vb : Value} {p : Int} (h : rdB w g vb p) : g < w.heap.size := (Array.getElem?_eq_some_iff.1 h).1
theorem rdB.set {w : World} {g : Nat} {vb : Value} {p : Int} (h : rdB w g vb p) (q : Int) : rdB (w.setCell ⟨g, 1, none⟩ (.int .i64 q)) g vb q := bk_set h 1 _
theorem rdB.below {w w' : World} {g : Nat} {vb : Value} {p : Int} (h : rdB w g vb p) (hb : Below w.heap.size w w') : rdB w' g vb p := (hb.block g h.lt).trans h
theorem restC (g : Nat) (ao : Option Addr) (n cap : Nat) (p : Int) (w : World) (h : rdB w g (.slice ao n cap) p) (hp : 0 ≤ p ∧ p ≤ n) (hn : n ≤ 9223372036854775807) :
    Calls Tryd.prog 44 #[.pointer (some ⟨g, 0, none⟩)] w fun e w' => e = .returned (.int .i64 ((n : Int) - p)) ∧ w' = w.drew := by
  have c0 := h.c0
  have c1 := h.c1
  have hw : IntKind.i64.wrap ((n : Int) - p) = (n : Int) - p := by rw [IntKind.wrap_i64]; omega
  go_enter Tryd.func44, Tryd.ntmps44
  go_wp2_with fail
  go_region
  go_wp2
  go_ret
  exact ⟨rfl, rfl⟩
theorem take_no (g : Nat) (ao : Option Addr) (n cap : Nat) (p k : Int) (w : World) (h : rdB w g (.slice ao n cap) p) (hp : 0 ≤ p ∧ p ≤ n) (hn : n ≤ 9223372036854775807) (hk : (n : Int) - p < k) :
    Calls Tryd.prog 26 #[.pointer (some ⟨g, 0, none⟩), .int .i64 k] w fun e w' => e = .panicked [leftP 2] ∧ w' = w.drew := by
  have hr := restC g ao n cap p w h hp hn
  go_enter Tryd.func26, Tryd.ntmps26
  go_wp2_with fail
  go_at_call 44
  refine hr.mono ?_
  rintro e w' ⟨rfl, rfl⟩
  replace hk : decide ((n : Int) - p < k) = true := decide_eq_true hk
  go_wp2_with fail
  go_at_call 25
  refine (leaveIf_t _ 2 _).mono ?_
  rintro e w' ⟨rfl, rfl⟩
  go_wp2
  exact ⟨rfl, rfl, rfl⟩
theorem rdB.drew {w : World} {g : Nat} {vb : Value} {p : Int} (h : rdB w g vb p) : rdB w.drew g vb p := h
/-- A slice that lies somewhere: block, place, cells. -/
structure Lies (w : World) (b off n cap : Nat) (xs : List Int) : Prop where
  len : xs.length = n
  lt : b < w.heap.size
  fits : n ≤ cap
  most : cap ≤ maxLen
  cell : ∀ j, j < n → w.cell? ⟨b, off + j, none⟩ = some (.int .u8 (xs.getD j 0))
theorem Lies.row {w : World} {b off n cap : Nat} {xs : List Int} (h : Lies w b off n cap xs) (p k : Nat) (hk : p + k ≤ n) : Row w .u8 (.slice (some ⟨b, off + p, none⟩) k (cap - p)) ((xs.drop p).take k) := by
  have hl := h.len
  subst hl
  exact row_cut (cap := cap) h.lt h.cell hk ⟨by have := h.fits; omega, by have := h.most; omega⟩
/-- The walk's own spelling of a piece: where nothing is behind it the address stays. -/
theorem Lies.rowI {w : World} {b off n cap : Nat} {xs : List Int} (h : Lies w b off n cap xs) (p k : Nat) (hk : p + k ≤ n) : Row w .u8 (.slice (if cap = p then some ⟨b, off, none⟩ else some ⟨b, off + p, none⟩) k (cap - p)) ((xs.drop p).take k) := by
  by_cases e : cap = p
  · have := h.fits
    obtain rfl : k = 0 := by omega
    exact Or.inl ⟨by simp, _, _, rfl⟩
  · rw [if_neg e]; exact h.row p k hk
theorem Lies.chg {w w' : World} {b off n cap : Nat} {xs : List Int} {S : Nat → Prop} (h : Lies w b off n cap xs) (hc : Chg S w w') (hs : ¬ S b) : Lies w' b off n cap xs :=
  ⟨h.len, Nat.lt_of_lt_of_le h.lt hc.size, h.fits, h.most, fun j hj => by rw [← h.cell j hj]; simp only [World.cell?]; rw [hc.block b h.lt hs]⟩
theorem Lies.below {w w' : World} {b off n cap : Nat} {xs : List Int} (h : Lies w b off n cap xs) (hb : Below w.heap.size w w') : Lies w' b off n cap xs :=
  ⟨h.len, Nat.lt_of_lt_of_le h.lt hb.size, h.fits, h.most, fun j hj => (hb.cell (p := ⟨b, off + j, none⟩) h.lt).trans (h.cell j hj)⟩
theorem grown_below {w w' : World} (h : w.grownBy w' none) : Below w.heap.size w w' := by
  obtain ⟨h1, h2, h3, h4, h5⟩ := h
  exact ⟨h1, h2, h3, h4, fun k hk => h5 k hk (by simp)⟩
set_option maxRecDepth 20000 in
set_option maxHeartbeats 2000000 in
theorem take_ok (g b off n cap p k : Nat) (xs : List Int) (w : World) (h : rdB w g (.slice (some ⟨b, off, none⟩) n cap) p) (hl : Lies w b off n cap xs) (hgb : b ≠ g) (hn : n ≤ 65536) (hk : p + k ≤ n) :
    Calls Tryd.prog 26 #[.pointer (some ⟨g, 0, none⟩), .int .i64 k] w fun e w' => ∃ v, e = .returned v ∧ w'.ownsRow w.heap.size 5 1 v k (((xs.drop p).take k).map (Value.int .u8)) ∧
      rdB w' g (.slice (some ⟨b, off, none⟩) n cap) ((p + k : Nat) : Int) ∧ Chg (· = g) w w' := by
  have hr := restC g (some ⟨b, off, none⟩) n cap p w h ⟨by omega, by omega⟩ (by omega)
  have c0 := h.c0
  have c1 := h.c1
  have f1 := h.fr 1
  have hw : IntKind.i64.wrap ((p : Int) + k) = p + k := by rw [IntKind.wrap_i64]; omega
  have hw2 : IntKind.i64.wrap ((p : Int) + k - k) = p := by rw [IntKind.wrap_i64]; omega
  have hw3 : IntKind.i64.wrap (p : Int) = p := by rw [IntKind.wrap_i64]; omega
  have hA : 0 ≤ (p : Int) + k ∧ (p : Int) + k ≤ cap := by have := hl.fits; omega
  have hM : max ((p : Int) + k) 0 = (p : Int) + k := by omega
  have hC : (p : Int) ≤ (p : Int) + k := by omega
  have hT : ((p : Int) + k).toNat = p + k := by omega
  have CH : Chg (· = g) w ((w.setCell ⟨g, 1, none⟩ (.int .i64 ((p : Int) + k))).drew.drew) := ⟨rfl, rfl, rfl, by simp [World.setCell], fun q hq hs => bk_other (w := w) hs 1 _⟩
  have hR : rdB ((w.setCell ⟨g, 1, none⟩ (.int .i64 ((p : Int) + k))).drew.drew) g (.slice (some ⟨b, off, none⟩) n cap) ((p : Int) + k) := h.set _
  have hlen : ((xs.drop p).take k).length = k := by rw [List.length_take, List.length_drop, hl.len]; omega
  have RW := (hl.chg CH hgb).rowI p k hk
  have hsz : 0 + ((xs.drop p).take k).length ≤ 140737488355328 := by rw [hlen]; omega
  have HH : Hid _ := And.intro CH (And.intro hR (And.intro RW (And.intro hlen hsz)))
  replace hk : decide ((n : Int) - p < k) = false := decide_eq_false (by omega)
  clear CH hR RW hlen hsz hl h
  generalize (xs.drop p).take k = ys at *
  go_enter Tryd.func26, Tryd.ntmps26
  go_wp2_with fail
  go_at_call 44
  refine hr.mono ?_
  rintro e w' ⟨rfl, rfl⟩
  go_wp2_with fail
  go_at_call 25
  refine (leaveIf_f _ 2 _).mono ?_
  rintro e w' ⟨rfl, rfl⟩
  go_wp2_with fail
  go_region_law (refine step_append_row rfl (.const _) (.tmp 33) rfl w.heap.size (.slice none 0 0) 0 [] rfl (World.ownsRow_nil _ _ _ _) (.slice (if cap = p then some ⟨b, off, none⟩ else some ⟨b, off + p, none⟩) k (cap - p)) ys rfl HH.out.2.2.1 HH.out.2.2.2.2 (by simp [World.setCell]) ?_; intro v1 w1 o1 g1)
  all_goals (rw [HH.out.2.2.2.1, Nat.zero_add, List.nil_append] at o1; have HF : Hid _ := And.intro o1 (And.intro (HH.out.2.1.below (grown_below g1)) (HH.out.1.trans (Chg.of_below (grown_below g1)))); clear o1 g1; go_wp2_with fail)
  all_goals first
    | (go_ret; exact ⟨v1, rfl, HF.out.1, HF.out.2.1, HF.out.2.2⟩)
    | (subst h; go_ret; exact ⟨v1, rfl, HF.out.1, HF.out.2.1, HF.out.2.2⟩)
end Go.Proofs.YtdommkpeilmdnaaDoor
