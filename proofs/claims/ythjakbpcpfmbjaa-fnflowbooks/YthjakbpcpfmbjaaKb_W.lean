import Derived.Test.YthjakbpcpfmbjaaFlFrm
import Derived.Test.YthjakbpcpfmbjaaKb_I
import Derived.Test.YthjakbpcpfmbjaaKb_J
import Derived.Test.YthjakbpcpfmbjaaKb_K
import Derived.Test.YthjakbpcpfmbjaaKb_E
import Derived.Test.YthjakbpcpfmbjaaIdOfLaw
import Derived.Deep.LoopGhost
import Derived.Deep.CutRange
import Derived.Deep.CutBlock
import Derived.Deep.RegionHeld3
import Derived.BigQuiet
import Derived.BigRegion
import Derived.Test.YthjakbpcpfmbjaaRows
import Derived.Test.YthjakbpcpfmbjaaLift
import Derived.Lib.LaidTab
namespace Go.Proofs.Ythjakbpcpfmbjaa
open Go.RowKit
set_option linter.unusedVariables false
set_option linter.unusedSimpArgs false

theorem sameF0 (w : World) : Calls Try.prog 24 #[.slice none 0 0, .slice none 0 0] w fun e w' => e = .returned (.bool true) ∧ w' = w := by
  have c1 := run_convert_bytes_nil (P := Try.prog) w 22 5 Try.underlying22 Try.underlying5 0 0 9 Try.underlying9
  go_enter Try.func24, Try.ntmps24
  go_wp2
  go_ret
  exact ⟨rfl, rfl⟩
theorem sameRg0 (w : World) : Calls Try.prog 25 #[.slice none 0 0, .slice none 0 0] w fun e w' => e = .returned (.bool true) ∧ w' = w := by
  go_enter Try.func25, Try.ntmps25
  go_wp2_with fail
  refine wp_loop_rounds 1 ?_
  rw [rounds_succ]
  go_wp2
  go_ret
  exact ⟨rfl, rfl⟩
def frV (x0 x1 x2 : Int) : Value := .agg #[.int .i64 x0, .int .i64 x1, .int .i64 x2, .int .i64 0, .bool false, .slice none 0 0, .slice none 0 0, .slice none 0 0]
set_option maxRecDepth 20000 in
set_option maxHeartbeats 4000000 in
theorem sameFrm (x0 x1 x2 : Int) (w : World) : Calls Try.prog 10 #[frV x0 x1 x2, frV x0 x1 x2] w fun e w' => e = .returned (.bool true) ∧ Below w.heap.size w w' := by
  have h0 : (x0 == x0) = true := by simp
  have h1 : (x1 == x1) = true := by simp
  have h2 : (x2 == x2) = true := by simp
  have hB : Below w.heap.size w ((w.alloc (.cells #[.int .i64 x0, .int .i64 x1, .int .i64 x2, .int .i64 0, .bool false, .slice none 0 0, .slice none 0 0, .slice none 0 0] 38)).alloc (.cells #[.int .i64 x0, .int .i64 x1, .int .i64 x2, .int .i64 0, .bool false, .slice none 0 0, .slice none 0 0, .slice none 0 0] 38)) := ((Below.refl _ _).alloc (Nat.le_refl _) _).alloc (by simp) _
  have bA := fun u => sameF0 u
  have bR := fun u => sameRg0 u
  have HH : Hid _ := And.intro hB (And.intro bA bR)
  clear hB bA bR
  unfold frV
  go_enter Try.func10, Try.ntmps10
  go_wp2_with (first
    | (go_at_call 24; refine (HH.out.2.1 _).mono ?_; rintro e wz ⟨rfl, hz⟩; subst hz)
    | (go_at_call 25; refine (HH.out.2.2 _).mono ?_; rintro e wz ⟨rfl, hz⟩; subst hz))
  go_ret
  exact ⟨rfl, HH.out.1⟩
theorem fr_le (F : FS) (m : FX) (k id n : Int) (o : Bool) : (fstep F m k id n o).2.fr.length ≤ 2 := by
  unfold fstep fopen fsend fread fend cO
  (repeat' split) <;> simp <;> (repeat' split) <;> simp
/-- What IdParts says of an opened stream's number. -/
theorem idn_ptP {s o : Bool} {k : Int} (h0 : 0 ≤ k) (h1 : k < 1152921504606846976) : ptS (idn s o k) = s ∧ ptO (idn s o k) = o ∧ ptP (idn s o k) = k ∧ ptC (idn s o k) = 0 ∧ idV s o k = idn s o k := by
  obtain ⟨a, b, c⟩ := idn_parts (s := s) (o := o) h0 h1
  have hb : 0 ≤ idn s o k ∧ idn s o k < 4611686018427387904 := by
    unfold idn
    cases s <;> cases o <;> simp <;> omega
  refine ⟨a, b, ?_, ?_, idV_idn h0 h1⟩
  · unfold ptP; rw [if_neg (by omega)]; exact c
  · unfold ptC; rw [if_neg (by omega)]
end Go.Proofs.Ythjakbpcpfmbjaa

namespace Go.Proofs.Ythjakbpcpfmbjaa
open Go.RowKit
set_option linter.unusedVariables false
set_option linter.unusedSimpArgs false

def iB (o : Bool) : Nat := if o then 1 else 0
theorem sum_nonneg {F : FS} {i : Nat} : ∀ {L : List SX}, (∀ s ∈ L, SXI F i s) → 0 ≤ sumS L
  | [], _ => by simp [sumS]
  | x :: r, h => by
    have h1 := (h x (List.mem_cons_self ..)).sn.1
    have h2 := sum_nonneg (L := r) (fun s hs => h s (List.mem_cons_of_mem _ hs))
    unfold sumS at h2 ⊢
    simp only [List.map_cons, List.sum_cons]
    omega
/-- The law's books, in memory: the numbers of opened streams, those that may be. -/
structure LB (w5 W : World) (c1 c2 : Nat) (opd may : Bool → Int) : Prop where
  k1 : W.heap[c1]? = some (.cells #[.int .i64 (opd false), .int .i64 (opd true)] 3 (0, 0))
  k2 : W.heap[c2]? = some (.cells #[.int .i64 (may false), .int .i64 (may true)] 3 (0, 0))
  lo : w5.heap.size ≤ c1 ∧ w5.heap.size ≤ c2
  ne : c1 ≠ c2
  bw : Below w5.heap.size w5 W
/-- Amid a round: the books, and the box with the observation. -/
structure LO8 (w5 W : World) (c1 c2 : Nat) (opd may : Bool → Int) (bx : Nat) (o : FO) (u : Value) : Prop where
  bo : LB w5 W c1 c2 opd may
  bk : W.heap[bx]? = some (.cells #[.int .i64 o.code, .int .i64 o.id, .int .i64 o.cnt, u] 35 (0, 0))
theorem arr2 (f : Bool → Int) (o : Bool) (x : Int) : (#[.int .i64 (f false), .int .i64 (f true)] : Array Value).setIfInBounds (iB o) (.int .i64 x) = #[.int .i64 (updB f o x false), .int .i64 (updB f o x true)] := by
  cases o <;> rfl
theorem get2 (f : Bool → Int) (o : Bool) : (#[.int .i64 (f false), .int .i64 (f true)] : Array Value)[iB o]? = some (.int .i64 (f o)) := by
  cases o <;> rfl
section
variable {w5 W : World} {c1 c2 bx : Nat} {opd may : Bool → Int} {o : FO} {u : Value}
theorem LB.lt (h : LB w5 W c1 c2 opd may) : c1 < W.heap.size ∧ c2 < W.heap.size := ⟨(Array.getElem?_eq_some_iff.1 h.k1).1, (Array.getElem?_eq_some_iff.1 h.k2).1⟩
theorem LB.below {W' : World} (h : LB w5 W c1 c2 opd may) (b : Below W.heap.size W W') : LB w5 W' c1 c2 opd may :=
  ⟨(b.block _ h.lt.1).trans h.k1, (b.block _ h.lt.2).trans h.k2, h.lo, h.ne, h.bw.trans (b.mono h.bw.size)⟩
theorem LB.drewN (h : LB w5 W c1 c2 opd may) (q : Nat) : LB w5 (W.drewN q) c1 c2 opd may := ⟨h.k1, h.k2, h.lo, h.ne, below_drewN h.bw q⟩
theorem LB.set1 (h : LB w5 W c1 c2 opd may) (b : Bool) (x : Int) : LB w5 (W.setCell ⟨c1, iB b, none⟩ (.int .i64 x)) c1 c2 (updB opd b x) may := by
  have hg := grown_setCell W c1 (iB b) (.int .i64 x)
  refine ⟨?_, blk_drawnT h.k2 hg (fun e => h.ne e.symm), h.lo, h.ne, h.bw.grown hg h.bw.size (fun q hq => by have := Option.some.inj hq; have := h.lo; omega)⟩
  rw [← arr2 opd b x]
  exact bk_set h.k1 _ _
theorem LB.set2 (h : LB w5 W c1 c2 opd may) (b : Bool) (x : Int) : LB w5 (W.setCell ⟨c2, iB b, none⟩ (.int .i64 x)) c1 c2 opd (updB may b x) := by
  have hg := grown_setCell W c2 (iB b) (.int .i64 x)
  refine ⟨blk_drawnT h.k1 hg h.ne, ?_, h.lo, h.ne, h.bw.grown hg h.bw.size (fun q hq => by have := Option.some.inj hq; have := h.lo; omega)⟩
  rw [← arr2 may b x]
  exact bk_set h.k2 _ _
theorem LB.y1 (h : LB w5 W c1 c2 opd may) (b : Bool) : W.cell? ⟨c1, iB b, none⟩ = some (.int .i64 (opd b)) := (bk_cell h.k1 _).trans (get2 opd b)
theorem LB.y2 (h : LB w5 W c1 c2 opd may) (b : Bool) : W.cell? ⟨c2, iB b, none⟩ = some (.int .i64 (may b)) := (bk_cell h.k2 _).trans (get2 may b)
theorem LB.z (h : LB w5 W c1 c2 opd may) : W.cell? ⟨c1, 0, none⟩ = some (.int .i64 (opd false)) ∧ W.cell? ⟨c1, 1, none⟩ = some (.int .i64 (opd true)) ∧ W.cell? ⟨c2, 0, none⟩ = some (.int .i64 (may false)) ∧ W.cell? ⟨c2, 1, none⟩ = some (.int .i64 (may true)) :=
  ⟨h.y1 false, h.y1 true, h.y2 false, h.y2 true⟩
theorem LO8.new (h : LB w5 W c1 c2 opd may) (o : FO) (u : Value) : LO8 w5 (W.alloc (.cells #[.int .i64 o.code, .int .i64 o.id, .int .i64 o.cnt, u] 35)) c1 c2 opd may W.heap.size o u := ⟨h.below ((Below.refl _ _).alloc (Nat.le_refl _) _), heap_alloc_new W _⟩
theorem LO8.drewN (h : LO8 w5 W c1 c2 opd may bx o u) (q : Nat) : LO8 w5 (W.drewN q) c1 c2 opd may bx o u := ⟨h.bo.drewN q, h.bk⟩
theorem LO8.below {W' : World} (h : LO8 w5 W c1 c2 opd may bx o u) (b : Below W.heap.size W W') : LO8 w5 W' c1 c2 opd may bx o u := ⟨h.bo.below b, (b.block _ (Array.getElem?_eq_some_iff.1 h.bk).1).trans h.bk⟩
theorem LO8.ne (h : LO8 w5 W c1 c2 opd may bx o u) : bx ≠ c1 ∧ bx ≠ c2 := by
  refine ⟨fun e => ?_, fun e => ?_⟩
  · have := h.bk; rw [e, h.bo.k1] at this; have := Option.some.inj this; injection this with _ t; exact absurd t (by decide)
  · have := h.bk; rw [e, h.bo.k2] at this; have := Option.some.inj this; injection this with _ t; exact absurd t (by decide)
theorem LO8.set1 (h : LO8 w5 W c1 c2 opd may bx o u) (b : Bool) (x : Int) : LO8 w5 (W.setCell ⟨c1, iB b, none⟩ (.int .i64 x)) c1 c2 (updB opd b x) may bx o u := ⟨h.bo.set1 b x, blk_drawnT h.bk (grown_setCell W c1 _ _) h.ne.1⟩
theorem LO8.set2 (h : LO8 w5 W c1 c2 opd may bx o u) (b : Bool) (x : Int) : LO8 w5 (W.setCell ⟨c2, iB b, none⟩ (.int .i64 x)) c1 c2 opd (updB may b x) bx o u := ⟨h.bo.set2 b x, blk_drawnT h.bk (grown_setCell W c2 _ _) h.ne.2⟩
theorem LO8.y (h : LO8 w5 W c1 c2 opd may bx o u) : W.cell? ⟨bx, 0, none⟩ = some (.int .i64 o.code) ∧ W.cell? ⟨bx, 1, none⟩ = some (.int .i64 o.id) ∧ W.cell? ⟨bx, 2, none⟩ = some (.int .i64 o.cnt) ∧ W.cell? ⟨bx, 3, none⟩ = some u :=
  ⟨(bk_cell h.bk 0).trans rfl, (bk_cell h.bk 1).trans rfl, (bk_cell h.bk 2).trans rfl, (bk_cell h.bk 3).trans rfl⟩
theorem LB.f1 (h : LB w5 W c1 c2 opd may) (k : Nat) : W.frozen? ⟨c1, k, none⟩ = false := bk_free h.k1 k
theorem LB.f2 (h : LB w5 W c1 c2 opd may) (k : Nat) : W.frozen? ⟨c2, k, none⟩ = false := bk_free h.k2 k
end
theorem tld_ge : ∀ (L : List (Int × Int × Int)) (t : Int), tldOK t L → t ≤ tld t L
  | [], _, _ => Int.le_refl _
  | f :: r, t, h => by
    obtain ⟨h1, h2⟩ := h
    have := tld_ge r _ h2
    show t ≤ tld (if f.1 = 16 then f.2.1 else t) r
    by_cases e : f.1 = 16
    · rw [if_pos e] at this ⊢; have := h1 e; omega
    · rw [if_neg e] at this ⊢; exact this
/-- The credit told behind k frames. -/
def tldK (t : Int) (L : List (Int × Int × Int)) (k : Nat) : Int := tld t (L.take k)
theorem tld_app : ∀ (A B : List (Int × Int × Int)) (t : Int), tld t (A ++ B) = tld (tld t A) B
  | [], B, t => rfl
  | f :: r, B, t => tld_app r B _
theorem tldOK_app : ∀ (A B : List (Int × Int × Int)) (t : Int), tldOK t (A ++ B) → tldOK (tld t A) B
  | [], B, t, h => h
  | f :: r, B, t, h => tldOK_app r B _ h.2
theorem tldK_step (t : Int) (L : List (Int × Int × Int)) (k : Nat) (hk : k < L.length) (h : tldOK t L) : tldK t L (k + 1) = (if (L.getD k default).1 = 16 then (L.getD k default).2.1 else tldK t L k) ∧ ((L.getD k default).1 = 16 → tldK t L k < (L.getD k default).2.1) := by
  have e : L.take (k + 1) = L.take k ++ [L.getD k default] := by
    rw [List.take_add_one]
    simp [List.getD, hk]
  have e2 : L = L.take k ++ (L.getD k default :: L.drop (k + 1)) := by
    conv => lhs; rw [← List.take_append_drop k L]
    congr 1
    rw [List.drop_eq_getElem_cons hk]
    simp [List.getD, hk]
  constructor
  · unfold tldK
    rw [e, tld_app]
    rfl
  · rw [e2] at h
    have := (tldOK_app _ _ _ h).1
    exact this
theorem tldK_all (t : Int) (L : List (Int × Int × Int)) : tldK t L L.length = tld t L := by unfold tldK; rw [List.take_length]
end Go.Proofs.Ythjakbpcpfmbjaa

namespace Go.Proofs.Ythjakbpcpfmbjaa
open Go.RowKit
set_option linter.unusedVariables false
set_option linter.unusedSimpArgs false

theorem flY_at (F : FS) (A : List SFlowOp) (h0 : 0 < (flY F A).length) : fsOK F = true ∧ (flY F A).length = A.length ∧ A.length ≤ 400 ∧ ∀ i, i < (flY F A).length → (flY F A).getD i default = fobsAt F A i := by
  by_cases c : 400 < A.length ∨ fsOK F = false
  · exfalso
    have e : flY F A = [] := by unfold flY; rw [if_pos c]
    rw [e] at h0
    exact absurd h0 (by simp)
  · have e : flY F A = (List.range A.length).map (fobsAt F A) := by unfold flY; rw [if_neg c]
    have hF : fsOK F = true := by cases h : fsOK F <;> simp_all
    rw [e]
    refine ⟨hF, by simp, by omega, fun i hi => ?_⟩
    have hiA : i < A.length := by simpa using hi
    simp [List.getD, hiA]
set_option maxRecDepth 20000 in
set_option maxHeartbeats 40000000 in
theorem fnFlowBooks_walk (v0 : Value) (x0 : List Int) (l0 : x0.length ≤ maxLen) (wf0 : ∀ x ∈ x0, (Lit.int .u8 x).wf = true)
    (w : World) (row0 : Row w .u8 v0 x0) :
    Calls Try.prog 4 #[v0] w fun e w' => e = .returned (.bool true) ∧ Below w.heap.size w w' := by
  have hB := bytes_of_wf wf0
  have hl0 : x0.length ≤ 9223372036854775807 := Nat.le_trans l0 (by decide)
  by_cases hb0 : 1048576 < x0.length
  · obtain ⟨a0, c0, rfl⟩ := row0.form
    have hb0' : (1048576 : Int) < (x0.length : Int) := by omega
    generalize x0.length = m0 at *
    clear row0 hB wf0
    go_enter Try.func4, Try.ntmps4
    go_wp2
    go_ret
    exact ⟨rfl, Below.refl _ _⟩
  obtain ⟨A, eA⟩ : ∃ A, A = dfr x0 := ⟨_, rfl⟩
  obtain ⟨F, eF⟩ : ∃ F, F = dfF x0 := ⟨_, rfl⟩
  have hN := dfN_le x0
  have hAl := dfr_len x0
  have hwf := dfr_wf x0
  rw [← eA] at hAl hwf
  have CD : ∀ W : World, Below w.heap.size w W → Calls Try.prog 5 #[v0] W fun e w' => ∃ r, e = .returned (.tuple #[.agg #[.bool F.sv, .int .i64 F.cw, .int .i64 F.sw, .int .i64 F.tw, .int .i64 F.ow, .int .i64 F.pc, .int .i64 F.ps, .int .i64 F.pt, .int .i64 F.po], r]) ∧ GOwns 32 4 w' W.heap.size r (SFlowOp.L A) ∧ Below W.heap.size W w' := fun W hW => by
    rw [eA, eF]
    exact drawFR v0 x0 W (row0.below hW) hB (by omega)
  obtain ⟨Y, eY⟩ : ∃ Y, Y = flY F A := ⟨_, rfl⟩
  obtain ⟨C, eC⟩ : ∃ C, C = flC F A := ⟨_, rfl⟩
  obtain ⟨m, em⟩ : ∃ m, m = Y.length := ⟨_, rfl⟩
  have hY := flY_at F A
  rw [← eY, ← em] at hY
  have hm : m ≤ 91 := by
    by_cases h0 : 0 < m
    · have := (hY h0).2.1; omega
    · omega
  have CS : ∀ (W : World) (v : Value), GRow 4 W v (SFlowOp.L A) → Calls Try.prog 6 #[.agg #[.bool F.sv, .int .i64 F.cw, .int .i64 F.sw, .int .i64 F.tw, .int .i64 F.ow, .int .i64 F.pc, .int .i64 F.ps, .int .i64 F.pt, .int .i64 F.po], v] W fun e w' => ∃ r, e = .returned (.tuple #[r, .int .i64 C]) ∧ NOwns w' W.heap.size r Y ∧ Below W.heap.size W w' := fun W v hr => by
    rw [eC, eY]
    exact specFL F v A W hr (by omega)
  have CI : ∀ (W : World) (v : Value), GRow 4 W v (SFlowOp.L A) → Calls Try.prog 7 #[.agg #[.bool F.sv, .int .i64 F.cw, .int .i64 F.sw, .int .i64 F.tw, .int .i64 F.ow, .int .i64 F.pc, .int .i64 F.ps, .int .i64 F.pt, .int .i64 F.po], v] W fun e w' => ∃ r, e = .returned (.tuple #[r, .int .i64 C]) ∧ NOwns w' W.heap.size r Y ∧ Below W.heap.size W w' := fun W v hr => by
    rw [eC, eY]
    exact implFL F v A W hr hwf (by omega)
  have hnb : ¬ (1048576 : Int) < (x0.length : Int) := by omega
  obtain ⟨a0, c0, ev⟩ := row0.form
  subst ev
  have HC : Hid _ := And.intro CD (And.intro CS (And.intro CI (And.intro hY em)))
  clear CD CS CI hY em row0 hB wf0 eC eY hb0 l0 eA eF hN hAl hwf
  have nC : (C != C) = false := by simp
  have nm : ((m : Int) != (m : Int)) = false := by simp
  generalize x0.length = m0 at *
  go_enter Try.func4, Try.ntmps4
  go_wp2_with fail
  go_at_call 5
  refine (HC.out.1 w (Below.refl _ _)).mono ?_
  rintro e w1 ⟨r1, rfl, o1, b1⟩
  have H1 : Hid _ := And.intro o1 b1
  clear o1 b1
  go_upto_region 4 with fail
  obtain ⟨b3, eb3⟩ : ∃ b, b = w1.heap.size := ⟨_, rfl⟩
  obtain ⟨u1, eu1⟩ : ∃ u, u = w1.alloc (.cells #[.bool F.sv, .int .i64 F.cw, .int .i64 F.sw, .int .i64 F.tw, .int .i64 F.ow, .int .i64 F.pc, .int .i64 F.ps, .int .i64 F.pt, .int .i64 F.po] 24) := ⟨_, rfl⟩
  have kF : u1.heap[b3]? = some (.cells #[.bool F.sv, .int .i64 F.cw, .int .i64 F.sw, .int .i64 F.tw, .int .i64 F.ow, .int .i64 F.pc, .int .i64 F.ps, .int .i64 F.pt, .int .i64 F.po] 24 (0, 0)) := by rw [eu1, eb3]; exact heap_alloc_new _ _
  have B1 : Below w1.heap.size w1 u1 := by rw [eu1]; exact (Below.refl _ _).alloc (Nat.le_refl _) _
  rw [← eu1, ← eb3]
  have H1 : Hid _ := And.intro (H1.out.1.below B1) (And.intro (H1.out.2.trans (B1.mono H1.out.2.size)) kF)
  clear kF B1 eu1 eb3
  go_upto_region 5 with (first
    | (refine wpList_load_row rfl 24 _ rfl b3 rfl 24 #[.bool F.sv, .int .i64 F.cw, .int .i64 F.sw, .int .i64 F.tw, .int .i64 F.ow, .int .i64 F.pc, .int .i64 F.ps, .int .i64 F.pt, .int .i64 F.po] (0, 0) _ H1.out.2.2 Try.underlying24 rfl infoFSz ?_)
    | (go_at_call 6; refine (HC.out.2.1 u1 r1 H1.out.1.row).mono ?_; rintro e w2 ⟨r2, rfl, o2, b2⟩; have H2 : Hid (NOwns w2 u1.heap.size r2 Y ∧ Below w.heap.size w w2 ∧ w2.heap[b3]? = some (.cells #[.bool F.sv, .int .i64 F.cw, .int .i64 F.sw, .int .i64 F.tw, .int .i64 F.ow, .int .i64 F.pc, .int .i64 F.ps, .int .i64 F.pt, .int .i64 F.po] 24 (0, 0))) := And.intro o2 (And.intro (H1.out.2.1.trans (b2.mono H1.out.2.1.size)) ((b2.block _ (Array.getElem?_eq_some_iff.1 H1.out.2.2).1).trans H1.out.2.2)); clear o2 b2))
  clear H1
  go_wp2_with fail
  go_at_call 5
  refine (HC.out.1 w2 H2.out.2.1).mono ?_
  rintro e w3 ⟨r3, rfl, o3, b3'⟩
  have H3 : Hid _ := And.intro o3 (And.intro (H2.out.2.1.trans (b3'.mono H2.out.2.1.size)) (And.intro (H2.out.1.below b3') ((b3'.block _ (Array.getElem?_eq_some_iff.1 H2.out.2.2).1).trans H2.out.2.2)))
  clear o3 b3' H2
  go_upto_region 6 with fail
  obtain ⟨b7, eb7⟩ : ∃ b, b = w3.heap.size := ⟨_, rfl⟩
  obtain ⟨u3, eu3⟩ : ∃ u, u = w3.alloc (.cells #[.bool F.sv, .int .i64 F.cw, .int .i64 F.sw, .int .i64 F.tw, .int .i64 F.ow, .int .i64 F.pc, .int .i64 F.ps, .int .i64 F.pt, .int .i64 F.po] 24) := ⟨_, rfl⟩
  have kG : u3.heap[b7]? = some (.cells #[.bool F.sv, .int .i64 F.cw, .int .i64 F.sw, .int .i64 F.tw, .int .i64 F.ow, .int .i64 F.pc, .int .i64 F.ps, .int .i64 F.pt, .int .i64 F.po] 24 (0, 0)) := by rw [eu3, eb7]; exact heap_alloc_new _ _
  have B3 : Below w3.heap.size w3 u3 := by rw [eu3]; exact (Below.refl _ _).alloc (Nat.le_refl _) _
  rw [← eu3, ← eb7]
  have H3 : Hid _ := And.intro (H3.out.1.below B3) (And.intro (H3.out.2.1.trans (B3.mono H3.out.2.1.size)) (And.intro (H3.out.2.2.1.below B3) (And.intro ((B3.block _ (Array.getElem?_eq_some_iff.1 H3.out.2.2.2).1).trans H3.out.2.2.2) kG)))
  clear kG B3 eu3 eb7
  go_upto_region 7 with (first
    | (refine wpList_load_row rfl 24 _ rfl b7 rfl 24 #[.bool F.sv, .int .i64 F.cw, .int .i64 F.sw, .int .i64 F.tw, .int .i64 F.ow, .int .i64 F.pc, .int .i64 F.ps, .int .i64 F.pt, .int .i64 F.po] (0, 0) _ H3.out.2.2.2.2 Try.underlying24 rfl infoFSz ?_)
    | (go_at_call 7; refine (HC.out.2.2.1 u3 r3 H3.out.1.row).mono ?_; rintro e w4 ⟨r4, rfl, o4, b4⟩; have H4 : Hid (NOwns w4 u3.heap.size r4 Y ∧ Below w.heap.size w w4 ∧ NOwns w4 u1.heap.size r2 Y ∧ w4.heap[b3]? = some (.cells #[.bool F.sv, .int .i64 F.cw, .int .i64 F.sw, .int .i64 F.tw, .int .i64 F.ow, .int .i64 F.pc, .int .i64 F.ps, .int .i64 F.pt, .int .i64 F.po] 24 (0, 0))) := And.intro o4 (And.intro (H3.out.2.1.trans (b4.mono H3.out.2.1.size)) (And.intro (H3.out.2.2.1.below b4) ((b4.block _ (Array.getElem?_eq_some_iff.1 H3.out.2.2.2.1).1).trans H3.out.2.2.2.1))); clear o4 b4))
  clear H3
  obtain ⟨ga, gc, eg⟩ := H4.out.1.row.form
  obtain ⟨fa, fc, ef⟩ := H4.out.2.2.1.row.form
  rw [← HC.out.2.2.2.2] at eg ef
  subst eg ef
  go_wp2_with fail
  go_at_call 5
  refine (HC.out.1 w4 H4.out.2.1).mono ?_
  rintro e w5 ⟨r5, rfl, o5, b5⟩
  obtain ⟨pa, pc, ep⟩ := o5.row.form
  rw [List.length_map] at ep
  have hs45 : w4.heap.size ≤ w5.heap.size := b5.size
  have H5 : Hid _ := And.intro b5 (And.intro (H4.out.2.1.trans (b5.mono H4.out.2.1.size)) (And.intro o5.row ((b5.block _ (Array.getElem?_eq_some_iff.1 H4.out.2.2.2).1).trans H4.out.2.2.2)))
  obtain ⟨N, eN⟩ : ∃ N, N = A.length := ⟨_, rfl⟩
  rw [← eN] at ep
  subst ep
  have HE : Hid _ := And.intro eN True.intro
  clear eN
  have z5 : w5.cell? ⟨b3, 5, none⟩ = some (.int .i64 F.pc) := (bk_cell H5.out.2.2.2 5).trans rfl
  have z7 : w5.cell? ⟨b3, 7, none⟩ = some (.int .i64 F.pt) := (bk_cell H5.out.2.2.2 7).trans rfl
  have z8 : w5.cell? ⟨b3, 8, none⟩ = some (.int .i64 F.po) := (bk_cell H5.out.2.2.2 8).trans rfl
  have hb3 : b3 < w5.heap.size := (Array.getElem?_eq_some_iff.1 H5.out.2.2.2).1
  clear o5 b5
  go_upto_region 15 with fail
  obtain ⟨U7, eU7⟩ : ∃ u, u = (w5.alloc (.cells #[.int .i64 0, .int .i64 0] 3)).alloc (.cells #[.int .i64 F.pt, .int .i64 F.po] 3) := ⟨_, rfl⟩
  obtain ⟨c1, ec1⟩ : ∃ c, c = w5.heap.size := ⟨_, rfl⟩
  obtain ⟨c2, ec2⟩ : ∃ c, c = w5.heap.size + 1 := ⟨_, rfl⟩
  have L0 : LB w5 U7 c1 c2 (fun _ => 0) (fun o => if o then F.po else F.pt) := by
    have hN2 := bk_new2 w5 (.cells #[.int .i64 0, .int .i64 0] 3) (.cells #[.int .i64 F.pt, .int .i64 F.po] 3)
    rw [eU7, ec1, ec2]
    exact ⟨hN2.1, hN2.2, by omega, by omega, ((Below.refl _ _).alloc (Nat.le_refl _) _).alloc (by simp) _⟩
  rw [← eU7, ← ec2, ← ec1]
  have HL : Hid _ := And.intro L0 True.intro
  clear L0 eU7 ec1 ec2 z5 z7 z8
  go_wp2_with fail
  go_loopg [11, 12, 15, 16, 17, 18, 19, 20, 21, 22, 23] m (fun q cv sv tv iv ov wv q1 q2 q3 q4 kv wr => ∃ (i : Nat) (conn sent told : Int) (opd may : Bool → Int), i ≤ m ∧ q = m - i ∧ cv = .int .i64 conn ∧ sv = .int .i64 sent ∧ tv = .int .i64 told ∧ iv = .int .i64 (i : Int) ∧ (0 < m → KB8 (frunP F A i) conn sent told opd may) ∧ LB w5 wr c1 c2 opd may)
  case atStart => exact ⟨0, _, _, _, _, _, by omega, by omega, rfl, rfl, rfl, rfl, fun h0 => KB8.zero F (HC.out.2.2.2.1 h0).1, HL.out.1⟩
  case round =>
    obtain ⟨i, conn, sent, told, opd, may, hi, hq, rfl, rfl, rfl, rfl, hK, hL⟩ := hrel
    have hsz : w5.heap.size ≤ wr.heap.size := hL.bw.size
    by_cases hlt : i < m
    · obtain ⟨hF, hmA, hA4, hYa⟩ := HC.out.2.2.2.1 (by omega)
      have hK := hK (by omega)
      have I := frunP_inv hF A i (by omega)
      have I2 := frunP_inv hF A (i + 1) (by omega)
      obtain ⟨o, eo⟩ : ∃ o, o = fobsAt F A i := ⟨_, rfl⟩
      obtain ⟨op, eop⟩ : ∃ o, o = A.getD i default := ⟨_, rfl⟩
      have hS := KB8.step hF I (by omega) hK op.f0 op.f1 op.f2 op.f3
      have eS : fstep F (frunP F A i) op.f0 op.f1 op.f2 op.f3 = (frunP F A (i + 1), o) := by
        rw [eo, eop]
        rfl
      have hfl := fr_le F (frunP F A i) op.f0 op.f1 op.f2 op.f3
      rw [eS] at hfl
      rw [eS] at hS
      obtain ⟨hT, hO, hS⟩ := hS
      have hH := hS.holds I2
      have hYi := hYa i hlt
      rw [← eo] at hYi
      have hu0 := sum_nonneg I.each
      have hu1 := sum_nonneg I2.each
      rw [← hK.sent] at hu0
      rw [← hS.sent] at hu1
      have hcc := I2.cc
      rw [← hS.sent, ← hS.conn] at hcc
      have hop := hK.opd
      have hI0 := I.op op.f3
      rw [← hK.opd, ← hK.may] at hI0
      have hmy := I.my op.f3
      rw [← hK.may] at hmy
      -- the cells of both answers, of the operation
      obtain ⟨gb, go, gc', eg, hgb, Ug, cg, rg⟩ := H4.out.1.row.at' (by rw [← HC.out.2.2.2.2]; omega)
      obtain ⟨fb, fo, fc', ef, hfb, Uf, cf, rf⟩ := H4.out.2.2.1.row.at' (by rw [← HC.out.2.2.2.2]; omega)
      injection eg with eg1 eg2 eg3
      injection ef with ef1 ef2 ef3
      subst eg1 ef1
      clear eg2 eg3 ef2 ef3
      have hcg := cg i (by rw [← HC.out.2.2.2.2]; exact hlt)
      have hcf := cf i (by rw [← HC.out.2.2.2.2]; exact hlt)
      have hrg := rg i (by rw [← HC.out.2.2.2.2]; exact hlt)
      have hrf := rf i (by rw [← HC.out.2.2.2.2]; exact hlt)
      rw [hYi] at hcg hcf hrg hrf
      obtain ⟨pb, po, pc', ep, hpb, cp⟩ := H5.out.2.2.1.at' (by rw [List.length_map]; omega)
      injection ep with ep1 ep2 ep3
      subst ep1
      clear ep2 ep3
      have hcp := cp i (by rw [List.length_map]; omega)
      rw [SFlowOp.at A i (by omega), ← eop] at hcp
      clear cg cf rg rf cp hYa
      obtain ⟨ua, uc, eu⟩ := hrg.form
      obtain ⟨ta, tc, et⟩ := hrf.form
      rw [List.length_map] at eu et
      obtain ⟨n, en⟩ : ∃ n, n = o.fr.length := ⟨_, rfl⟩
      have hn2 : n ≤ 2 := by rw [en]; exact hfl
      clear hfl
      rw [← en] at eu et
      obtain ⟨ug, eug⟩ : ∃ u, u = Ug i := ⟨_, rfl⟩
      obtain ⟨uf, euf⟩ : ∃ u, u = Uf i := ⟨_, rfl⟩
      rw [← eug] at eu hcg hrg
      rw [← euf] at et hcf hrf
      subst eu et
      clear eug euf
      obtain ⟨q0, q1, q2, fr⟩ := o
      obtain ⟨k0, k1, k2, k3⟩ := op
      dsimp only at hT hO hS hH hop hI0 hmy hcg hcf hrg hrf hcp en hcc hu1
      dsimp only [FO.c] at hcg hcf
      dsimp only [SFlowOp.c] at hcp
      have hbc : ∀ (b k : Nat), b < w4.heap.size → wr.cell? ⟨b, k, none⟩ = w4.cell? ⟨b, k, none⟩ := fun b k hb => (hL.bw.cell (p := ⟨b, k, none⟩) (by show b < _; omega)).trans (H5.out.1.cell (p := ⟨b, k, none⟩) hb)
      have cg0 : wr.cell? ⟨gb, go + i * 4, none⟩ = some (.int .i64 q0) := (hbc gb _ hgb).trans (hcg 0 (by omega))
      have cg1 : wr.cell? ⟨gb, go + i * 4 + 1, none⟩ = some (.int .i64 q1) := (hbc gb _ hgb).trans (hcg 1 (by omega))
      have cg2 : wr.cell? ⟨gb, go + i * 4 + 2, none⟩ = some (.int .i64 q2) := (hbc gb _ hgb).trans (hcg 2 (by omega))
      have cg3 : wr.cell? ⟨gb, go + i * 4 + 3, none⟩ = some (.slice ua n uc) := (hbc gb _ hgb).trans (hcg 3 (by omega))
      have cf0 : wr.cell? ⟨fb, fo + i * 4, none⟩ = some (.int .i64 q0) := (hbc fb _ hfb).trans (hcf 0 (by omega))
      have cf2 : wr.cell? ⟨fb, fo + i * 4 + 2, none⟩ = some (.int .i64 q2) := (hbc fb _ hfb).trans (hcf 2 (by omega))
      have cf3 : wr.cell? ⟨fb, fo + i * 4 + 3, none⟩ = some (.slice ta n tc) := (hbc fb _ hfb).trans (hcf 3 (by omega))
      have hgbr : gb < wr.heap.size := by omega
      have hfbr : fb < wr.heap.size := by omega
      have HR : Hid _ := And.intro hT (And.intro hO (And.intro hS (And.intro hL hq)))
      have HP : Hid _ := And.intro hrg (And.intro hrf (And.intro hcp (And.intro (hcf 3 (by omega)) en)))
      have n0 : (q0 != q0) = false := by simp
      have n2 : (q2 != q2) = false := by simp
      have nn : ((n : Int) != (n : Int)) = false := by simp
      have HN : Hid _ := And.intro hH (And.intro hu0 (And.intro hu1 (And.intro hcc (And.intro hI0 hmy))))
      have HM : Hid _ := And.intro hmA (And.intro hA4 HE.out.1)
      clear hT hO hS hL hq hK I I2 eo eop eS hH hYi hu0 hu1 hcc hop hI0 hmy hcg hcf hrg hrf hcp en hbc hmA hA4 hF
      go_upto_region 19 with fail
      go_quiet (fail)
      go_upto_if 111 with fail
      go_cut [17] from 72 to 285 (fun v17 wx => v17 = .pointer (some ⟨wr.heap.size, 0, none⟩) ∧ LO8 w5 wx c1 c2 opd may wr.heap.size ⟨q0, q1, q2, fr⟩ (.slice ua n uc))
      case first =>
        as_aux_lemma =>
        go_wp2_with fail
        go_meet
        exact ⟨rfl, (LO8.new HR.out.2.2.2.1 ⟨q0, q1, q2, fr⟩ (.slice ua n uc)).drewN _⟩
      case rest =>
      obtain ⟨rfl, R1⟩ := hcut
      obtain ⟨bx, ebx⟩ : ∃ b, b = wr.heap.size := ⟨_, rfl⟩
      rw [← ebx] at R1 ⊢
      have hpc : ∀ (W : World), Below w5.heap.size w5 W → ∀ k, W.cell? ⟨pb, k, none⟩ = w5.cell? ⟨pb, k, none⟩ := fun W hW k => hW.cell (p := ⟨pb, k, none⟩) hpb
      have p0 : w5.cell? ⟨pb, po + i * 4, none⟩ = some (.int .i64 k0) := HP.out.2.2.1 0 (by omega)
      have p2 : w5.cell? ⟨pb, po + i * 4 + 2, none⟩ = some (.int .i64 k2) := HP.out.2.2.1 2 (by omega)
      have p3 : w5.cell? ⟨pb, po + i * 4 + 3, none⟩ = some (.bool k3) := HP.out.2.2.1 3 (by omega)
      have P5 : Hid _ := And.intro hpc (And.intro p0 (And.intro p2 p3))
      have cp3 := (hpc wc R1.bo.bw _).trans p3
      have hiN : (i : Int) < (N : Int) := by have := HM.out.1; have := HM.out.2.2; omega
      have hiN' : i < N := by omega
      have H1c : Hid _ := R1
      clear R1 hpc p0 p2 p3 cg0 cg1 cg2 cg3 cf0 cf2 cf3 n0 n2 nn ebx hgbr hfbr
      go_upto_region 22 with fail
      go_upto_if 116 with fail
      go_cut [18] from 112 to 285 (fun v18 wx => v18 = .int .i64 ((iB k3 : Nat) : Int) ∧ LO8 w5 wx c1 c2 opd may bx ⟨q0, q1, q2, fr⟩ (.slice ua n uc))
      case first =>
        as_aux_lemma =>
        cases k3
        · go_wp2_with fail
          go_meet
          exact ⟨rfl, H1c.out⟩
        · go_wp2_with fail
          go_meet
          exact ⟨rfl, H1c.out⟩
      case rest =>
      clear cp3 H1c
      obtain ⟨rfl, R2⟩ := hcut
      obtain ⟨wi, ewi⟩ : ∃ k, k = iB k3 := ⟨_, rfl⟩
      rw [← ewi]
      have hwi : wi < 2 := by rw [ewi]; unfold iB; split <;> omega
      have HW : Hid _ := And.intro ewi True.intro
      clear ewi
      -- the stream is opened
      have cp0 := (P5.out.1 wc R2.bo.bw _).trans P5.out.2.1
      obtain ⟨y0, y1, y2, y3⟩ := R2.y
      dsimp only at y0 y1 y2 y3
      have H2c : Hid _ := R2
      clear R2
      go_upto_region 24 with fail
      go_cut [127] from 117 to 285 (fun v wx => v = .bool (decide (q0 = 0 ∧ k0 = 1)) ∧ LO8 w5 wx c1 c2 opd may bx ⟨q0, q1, q2, fr⟩ (.slice ua n uc))
      case first =>
        as_aux_lemma =>
        by_cases e0 : q0 = 0
        · by_cases e1 : k0 = 1
          · have t0 : (q0 == 0) = true := by simpa using e0
            have t1 : (k0 == 1) = true := by simpa using e1
            have E : Hid (decide (q0 = 0 ∧ k0 = 1) = true) := decide_eq_true ⟨e0, e1⟩
            clear e0 e1
            go_wp2_with fail
            go_meet
            exact ⟨congrArg Value.bool E.out.symm, H2c.out⟩
          · have t0 : (q0 == 0) = true := by simpa using e0
            have t1 : (k0 == 1) = false := by simpa using e1
            have E : Hid (decide (q0 = 0 ∧ k0 = 1) = false) := decide_eq_false (fun h => e1 h.2)
            clear e0 e1
            go_wp2_with fail
            go_meet
            exact ⟨congrArg Value.bool E.out.symm, H2c.out⟩
        · have t0 : (q0 == 0) = false := by simpa using e0
          have E : Hid (decide (q0 = 0 ∧ k0 = 1) = false) := decide_eq_false (fun h => e0 h.1)
          clear e0
          go_wp2_with fail
          go_meet
          exact ⟨congrArg Value.bool E.out.symm, H2c.out⟩
      case rest =>
      clear cp0 y0 y1 y2 y3 H2c
      as_aux_lemma =>
      obtain ⟨rfl, R3⟩ := hcut
      obtain ⟨t, et⟩ : ∃ t, t = decide (q0 = 0 ∧ k0 = 1) := ⟨_, rfl⟩
      rw [← et]
      have ET : Hid _ := And.intro et True.intro
      clear et
      have H3c : Hid _ := R3
      clear R3
      go_upto_if 127 with fail
      go_cut [19, 20, 21, 22] from 127 to 285 (fun v19 v20 v21 v22 wx => ∃ opd2, opd2 = (if q0 = 0 ∧ k0 = 1 then updB opd k3 (opd k3 + 1) else opd) ∧ LO8 w5 wx c1 c2 opd2 may bx ⟨q0, q1, q2, fr⟩ (.slice ua n uc))
      case first =>
        cases t
        · as_aux_lemma =>
          go_wp2_with fail
          go_meet
          exact ⟨opd, by rw [if_neg (of_decide_eq_false ET.out.1.symm)], H3c.out⟩
        · as_aux_lemma =>
          have hc := of_decide_eq_true ET.out.1.symm
          obtain ⟨hq1, hk0, hk1⟩ := HR.out.2.1 hc.1 hc.2
          obtain ⟨sv, esv⟩ : ∃ s, s = F.sv := ⟨_, rfl⟩
          obtain ⟨kk, ekk⟩ : ∃ k, k = opd k3 := ⟨_, rfl⟩
          rw [← esv, ← ekk] at hq1
          rw [← ekk] at hk0 hk1
          have hid := idn_ptP (s := sv) (o := k3) hk0 hk1
          rw [← hq1] at hid
          have CP : ∀ W : World, Calls Try.prog 8 #[.int .i64 q1] W fun e w' => e = .returned (.tuple #[.bool sv, .bool k3, .int .i64 kk, .int .i64 0]) ∧ w' = W := fun W => by
            have := implIdParts q1 W
            rw [hid.1, hid.2.1, hid.2.2.1, hid.2.2.2.1] at this
            exact this
          have CO : ∀ W : World, Calls Try.prog 9 #[.bool sv, .bool k3, .int .i64 kk] W fun e w' => e = .returned (.int .i64 q1) ∧ w' = W := fun W => by
            have := implIdOf sv k3 kk W
            rw [hid.2.2.2.2] at this
            exact this
          have HX : Hid _ := And.intro CP (And.intro CO hc)
          have x1 := H3c.out.bo.y1 k3
          rw [← ekk, ← HW.out.1] at x1
          have xf := H3c.out.bo.f1 wi
          have z0 : wc.cell? ⟨b3, 0, none⟩ = some (.bool sv) := by rw [esv]; exact (H3c.out.bo.bw.cell (p := ⟨b3, 0, none⟩) hb3).trans ((bk_cell H5.out.2.2.2 0).trans rfl)
          have cp3 := (P5.out.1 wc H3c.out.bo.bw _).trans P5.out.2.2.2
          obtain ⟨y0, y1, y2, y3⟩ := H3c.out.y
          dsimp only at y0 y1 y2 y3
          have nsv : (sv != sv) = false := by simp
          have nk3 : (k3 != k3) = false := by simp
          have nkk : (kk != kk) = false := by simp
          have nq1 : (q1 != q1) = false := by simp
          have EK : Hid _ := And.intro ekk True.intro
          have hkb : 0 ≤ kk ∧ kk ≤ 500 := by have := HN.out.2.2.2.2.1; rw [ekk]; omega
          clear CP CO hc hq1 hid ekk hk0 hk1 esv
          go_wp2_with fail
          go_at_call 8
          refine (HX.out.1 _).mono ?_
          rintro e wz ⟨rfl, hz⟩
          subst hz
          go_upto_region 26 with fail
          go_quiet (first | (go_at_call 9; exact Calls.quiet_of_same (HX.out.2.1 _)))
          go_wp2_with fail
          go_meet
          refine ⟨updB opd k3 (kk + 1), by rw [if_pos HX.out.2.2, EK.out.1], ?_⟩
          rw [HW.out.1]
          exact (H3c.out.drewN _).set1 k3 (kk + 1)
      case rest =>
      clear H3c ET t
      obtain ⟨opd2, eo2, R4⟩ := hcut
      have HO2 : Hid _ := And.intro eo2 True.intro
      clear eo2
      -- the credit of the connection
      have cp0 := (P5.out.1 wc R4.bo.bw _).trans P5.out.2.1
      have cp2 := (P5.out.1 wc R4.bo.bw _).trans P5.out.2.2.1
      obtain ⟨y0, y1, y2, y3⟩ := R4.y
      dsimp only at y0 y1 y2 y3
      have H4c : Hid _ := R4
      clear R4
      go_upto_region 29 with fail
      go_cut [186] from 176 to 285 (fun v wx => v = .bool (decide (q0 = 0 ∧ k0 = 6)) ∧ LO8 w5 wx c1 c2 opd2 may bx ⟨q0, q1, q2, fr⟩ (.slice ua n uc))
      case first =>
        as_aux_lemma =>
        by_cases e0 : q0 = 0
        · by_cases e1 : k0 = 6
          · have t0 : (q0 == 0) = true := by simpa using e0
            have t1 : (k0 == 6) = true := by simpa using e1
            have E : Hid (decide (q0 = 0 ∧ k0 = 6) = true) := decide_eq_true ⟨e0, e1⟩
            clear e0 e1
            go_wp2_with fail
            go_meet
            exact ⟨congrArg Value.bool E.out.symm, H4c.out⟩
          · have t0 : (q0 == 0) = true := by simpa using e0
            have t1 : (k0 == 6) = false := by simpa using e1
            have E : Hid (decide (q0 = 0 ∧ k0 = 6) = false) := decide_eq_false (fun h => e1 h.2)
            clear e0 e1
            go_wp2_with fail
            go_meet
            exact ⟨congrArg Value.bool E.out.symm, H4c.out⟩
        · have t0 : (q0 == 0) = false := by simpa using e0
          have E : Hid (decide (q0 = 0 ∧ k0 = 6) = false) := decide_eq_false (fun h => e0 h.1)
          clear e0
          go_wp2_with fail
          go_meet
          exact ⟨congrArg Value.bool E.out.symm, H4c.out⟩
      case rest =>
      clear cp0 cp2 y0 y1 y2 y3 H4c
      as_aux_lemma =>
      obtain ⟨rfl, R5⟩ := hcut
      obtain ⟨t, et⟩ : ∃ t, t = decide (q0 = 0 ∧ k0 = 6) := ⟨_, rfl⟩
      rw [← et]
      have ET : Hid _ := And.intro et True.intro
      clear et
      have cp2 := (P5.out.1 wc R5.bo.bw _).trans P5.out.2.2.1
      have H5c : Hid _ := R5
      clear R5
      go_upto_if 186 with fail
      go_cut [11] from 186 to 285 (fun v11 wx => v11 = .int .i64 (if q0 = 0 ∧ k0 = 6 then max conn k2 else conn) ∧ LO8 w5 wx c1 c2 opd2 may bx ⟨q0, q1, q2, fr⟩ (.slice ua n uc))
      case first =>
        cases t
        · as_aux_lemma =>
          go_wp2_with fail
          go_meet
          exact ⟨by rw [if_neg (of_decide_eq_false ET.out.1.symm)], H5c.out⟩
        · as_aux_lemma =>
          go_wp2_with fail
          go_meet
          exact ⟨by rw [if_pos (of_decide_eq_true ET.out.1.symm)], H5c.out⟩
      case rest =>
      clear cp2 H5c ET t
      obtain ⟨rfl, R6⟩ := hcut
      obtain ⟨conn2, ec2⟩ : ∃ c, c = (if q0 = 0 ∧ k0 = 6 then max conn k2 else conn) := ⟨_, rfl⟩
      rw [← ec2]
      have HC2 : Hid _ := And.intro ec2 True.intro
      clear ec2
      -- how many streams may be
      have cp0 := (P5.out.1 wc R6.bo.bw _).trans P5.out.2.1
      obtain ⟨y0, y1, y2, y3⟩ := R6.y
      dsimp only at y0 y1 y2 y3
      have H6c : Hid _ := R6
      clear R6
      go_upto_region 31 with fail
      go_cut [204] from 194 to 285 (fun v wx => v = .bool (decide (q0 = 0 ∧ k0 = 8)) ∧ LO8 w5 wx c1 c2 opd2 may bx ⟨q0, q1, q2, fr⟩ (.slice ua n uc))
      case first =>
        as_aux_lemma =>
        by_cases e0 : q0 = 0
        · by_cases e1 : k0 = 8
          · have t0 : (q0 == 0) = true := by simpa using e0
            have t1 : (k0 == 8) = true := by simpa using e1
            have E : Hid (decide (q0 = 0 ∧ k0 = 8) = true) := decide_eq_true ⟨e0, e1⟩
            clear e0 e1
            go_wp2_with fail
            go_meet
            exact ⟨congrArg Value.bool E.out.symm, H6c.out⟩
          · have t0 : (q0 == 0) = true := by simpa using e0
            have t1 : (k0 == 8) = false := by simpa using e1
            have E : Hid (decide (q0 = 0 ∧ k0 = 8) = false) := decide_eq_false (fun h => e1 h.2)
            clear e0 e1
            go_wp2_with fail
            go_meet
            exact ⟨congrArg Value.bool E.out.symm, H6c.out⟩
        · have t0 : (q0 == 0) = false := by simpa using e0
          have E : Hid (decide (q0 = 0 ∧ k0 = 8) = false) := decide_eq_false (fun h => e0 h.1)
          clear e0
          go_wp2_with fail
          go_meet
          exact ⟨congrArg Value.bool E.out.symm, H6c.out⟩
      case rest =>
      clear cp0 y0 y1 y2 y3 H6c
      as_aux_lemma =>
      obtain ⟨rfl, R7⟩ := hcut
      obtain ⟨t, et⟩ : ∃ t, t = decide (q0 = 0 ∧ k0 = 8) := ⟨_, rfl⟩
      rw [← et]
      have ET : Hid _ := And.intro et True.intro
      clear et
      have H7c : Hid _ := R7
      clear R7
      go_upto_if 204 with fail
      go_cut [] from 204 to 285 (fun wx => ∃ may2, may2 = (if q0 = 0 ∧ k0 = 8 then updB may k3 (max (may k3) k2) else may) ∧ LO8 w5 wx c1 c2 opd2 may2 bx ⟨q0, q1, q2, fr⟩ (.slice ua n uc))
      case first =>
        cases t
        · as_aux_lemma =>
          go_wp2_with fail
          go_meet
          exact ⟨may, by rw [if_neg (of_decide_eq_false ET.out.1.symm)], H7c.out⟩
        · as_aux_lemma =>
          have hc := of_decide_eq_true ET.out.1.symm
          obtain ⟨kk, ekk⟩ : ∃ k, k = may k3 := ⟨_, rfl⟩
          have x1 := H7c.out.bo.y2 k3
          rw [← ekk, ← HW.out.1] at x1
          have xf := H7c.out.bo.f2 wi
          have cp2 := (P5.out.1 wc H7c.out.bo.bw _).trans P5.out.2.2.1
          have HX : Hid _ := And.intro hc ekk
          clear hc ekk
          go_upto_region 32 with fail
          go_region
          all_goals
            go_wp2_with fail
            go_meet
            refine ⟨updB may k3 (max kk k2), by rw [if_pos HX.out.1, HX.out.2], ?_⟩
            rw [HW.out.1]
            exact (H7c.out.drewN _).set2 k3 (max kk k2)
      case rest =>
      clear H7c ET t
      obtain ⟨may2, em2, R8⟩ := hcut
      have HM2 : Hid _ := And.intro em2 True.intro
      clear em2
      -- what must hold
      have hHH : sent + q2 ≤ conn2 ∧ opd2 false ≤ may2 false ∧ opd2 true ≤ may2 true := by
        have h := HN.out.1
        rw [HC2.out.1, HM2.out.1, HO2.out.1]
        exact ⟨h.1, h.2 false, h.2 true⟩
      have hss : 0 ≤ sent ∧ 0 ≤ sent + q2 ∧ sent + q2 ≤ 4611686018427387903 := ⟨HN.out.2.1, HN.out.2.2.1, by have := HN.out.2.2.2.1; omega⟩
      obtain ⟨a0, ea0⟩ : ∃ a, a = opd2 false := ⟨_, rfl⟩
      obtain ⟨a1, ea1⟩ : ∃ a, a = opd2 true := ⟨_, rfl⟩
      obtain ⟨m0', em0⟩ : ∃ a, a = may2 false := ⟨_, rfl⟩
      obtain ⟨m1, em1⟩ : ∃ a, a = may2 true := ⟨_, rfl⟩
      obtain ⟨x0, x1, x2, x3⟩ := R8.bo.z
      rw [← ea0] at x0 hHH
      rw [← ea1] at x1 hHH
      rw [← em0] at x2 hHH
      rw [← em1] at x3 hHH
      have d1 : decide (conn2 < sent + q2) = false := by rw [decide_eq_false_iff_not]; omega
      have d2 : decide (m0' < a0) = false := by rw [decide_eq_false_iff_not]; omega
      have d3 : decide (m1 < a1) = false := by rw [decide_eq_false_iff_not]; omega
      obtain ⟨y0, y1, y2, y3⟩ := R8.y
      dsimp only at y0 y1 y2 y3
      have H8c : Hid _ := R8
      clear R8 ea0 ea1 em0 em1 hHH
      go_upto_region 34 with fail
      go_quiet (fail)
      go_upto_if 242 with fail
      go_cut [12] from 218 to 285 (fun v12 wx => v12 = .int .i64 (sent + q2) ∧ LO8 w5 wx c1 c2 opd2 may2 bx ⟨q0, q1, q2, fr⟩ (.slice ua n uc))
      case first =>
        as_aux_lemma =>
        go_wp2_with fail
        go_meet
        exact ⟨rfl, H8c.out.drewN _⟩
      case rest =>
      clear x0 x1 x2 x3 d1 d2 d3 y0 y1 y2 y3 H8c
      as_aux_lemma =>
      obtain ⟨rfl, R9⟩ := hcut
      have H9c : Hid _ := R9
      clear R9
      -- the frames
      have HRm : Hid _ := And.intro (HR.out.1) (And.intro HR.out.2.2.1 HR.out.2.2.2.2)
      go_wp2_with fail
      rename World => we
      go_loopg [15, 23] n (fun q tv kv wx => ∃ k : Nat, k ≤ n ∧ q = n - k ∧ tv = .int .i64 (tldK told fr k) ∧ kv = .int .i64 (k : Int) ∧ LO8 w5 wx c1 c2 opd2 may2 bx ⟨q0, q1, q2, fr⟩ (.slice ua n uc))
      case atStart => exact ⟨0, by omega, by omega, rfl, rfl, H9c.out⟩
      case round =>
        clear H9c
        obtain ⟨k, hk, hqk, rfl, rfl, RL⟩ := hrel
        obtain ⟨tk, etk⟩ : ∃ t, t = tldK told fr k := ⟨_, rfl⟩
        rw [← etk]
        obtain ⟨y0, y1, y2, y3⟩ := RL.y
        dsimp only at y0 y1 y2 y3
        by_cases hkn : k < n
        · have hen := HP.out.2.2.2.2
          obtain ⟨sb, so, sc, es, hsb, cs⟩ := HP.out.1.at' (by rw [List.length_map]; omega)
          obtain ⟨rb, ro, rc, er, hrb, cr⟩ := HP.out.2.1.at' (by rw [List.length_map]; omega)
          injection es with es1 es2 es3
          injection er with er1 er2 er3
          subst es1 er1
          clear es2 es3 er2 er3
          have hcs := cs k (by rw [List.length_map]; omega)
          have hcr := cr k (by rw [List.length_map]; omega)
          rw [frC_at fr k (by omega)] at hcs hcr
          have hst := tldK_step told fr k (by omega) HRm.out.1
          rw [← etk] at hst
          obtain ⟨fx, efx⟩ : ∃ f, f = fr.getD k default := ⟨_, rfl⟩
          rw [← efx] at hcs hcr hst
          obtain ⟨x0, x1, x2⟩ := fx
          dsimp only [frC] at hcs hcr
          dsimp only at hst
          have hbw : ∀ (W : World), Below w5.heap.size w5 W → ∀ (b k : Nat), b < w4.heap.size → W.cell? ⟨b, k, none⟩ = w4.cell? ⟨b, k, none⟩ := fun W hW b k hb => (hW.cell (p := ⟨b, k, none⟩) (by show b < _; omega)).trans (H5.out.1.cell (p := ⟨b, k, none⟩) hb)
          have bd : Below w5.heap.size w5 wr.drew := below_drewN RL.bo.bw 1
          have cu : wr.drew.cell? ⟨fb, fo + i * 4 + 3, none⟩ = some (.slice (some ⟨rb, ro, none⟩) n tc) := (hbw _ bd _ _ hfb).trans HP.out.2.2.2.1
          have a0 : wr.drew.cell? ⟨sb, so + k * 8, none⟩ = some (.int .i64 x0) := (hbw _ bd _ _ hsb).trans (hcs 0 (by omega))
          have b0 : wr.drew.cell? ⟨rb, ro + k * 8, none⟩ = some (.int .i64 x0) := (hbw _ bd _ _ hrb).trans (hcr 0 (by omega))
          have a1 : wr.drew.cell? ⟨sb, so + k * 8 + 1, none⟩ = some (.int .i64 x1) := (hbw _ bd _ _ hsb).trans (hcs 1 (by omega))
          have b1 : wr.drew.cell? ⟨rb, ro + k * 8 + 1, none⟩ = some (.int .i64 x1) := (hbw _ bd _ _ hrb).trans (hcr 1 (by omega))
          have a2 : wr.drew.cell? ⟨sb, so + k * 8 + 2, none⟩ = some (.int .i64 x2) := (hbw _ bd _ _ hsb).trans (hcs 2 (by omega))
          have b2 : wr.drew.cell? ⟨rb, ro + k * 8 + 2, none⟩ = some (.int .i64 x2) := (hbw _ bd _ _ hrb).trans (hcr 2 (by omega))
          have a3 : wr.drew.cell? ⟨sb, so + k * 8 + 3, none⟩ = some (.int .i64 0) := (hbw _ bd _ _ hsb).trans (hcs 3 (by omega))
          have b3 : wr.drew.cell? ⟨rb, ro + k * 8 + 3, none⟩ = some (.int .i64 0) := (hbw _ bd _ _ hrb).trans (hcr 3 (by omega))
          have a4 : wr.drew.cell? ⟨sb, so + k * 8 + 4, none⟩ = some (.bool false) := (hbw _ bd _ _ hsb).trans (hcs 4 (by omega))
          have b4 : wr.drew.cell? ⟨rb, ro + k * 8 + 4, none⟩ = some (.bool false) := (hbw _ bd _ _ hrb).trans (hcr 4 (by omega))
          have a5 : wr.drew.cell? ⟨sb, so + k * 8 + 5, none⟩ = some (.slice none 0 0) := (hbw _ bd _ _ hsb).trans (hcs 5 (by omega))
          have b5 : wr.drew.cell? ⟨rb, ro + k * 8 + 5, none⟩ = some (.slice none 0 0) := (hbw _ bd _ _ hrb).trans (hcr 5 (by omega))
          have a6 : wr.drew.cell? ⟨sb, so + k * 8 + 6, none⟩ = some (.slice none 0 0) := (hbw _ bd _ _ hsb).trans (hcs 6 (by omega))
          have b6 : wr.drew.cell? ⟨rb, ro + k * 8 + 6, none⟩ = some (.slice none 0 0) := (hbw _ bd _ _ hrb).trans (hcr 6 (by omega))
          have a7 : wr.drew.cell? ⟨sb, so + k * 8 + 7, none⟩ = some (.slice none 0 0) := (hbw _ bd _ _ hsb).trans (hcs 7 (by omega))
          have b7 : wr.drew.cell? ⟨rb, ro + k * 8 + 7, none⟩ = some (.slice none 0 0) := (hbw _ bd _ _ hrb).trans (hcr 7 (by omega))
          have hfbr : fb < wr.heap.size := by have := RL.bo.bw.size; omega
          have L4 : bx < wr.drew.heap.size ∧ fb < wr.drew.heap.size ∧ sb < wr.drew.heap.size ∧ rb < wr.drew.heap.size := by have h1 := RL.bo.bw.size; have h2 := (Array.getElem?_eq_some_iff.1 RL.bk).1; refine ⟨h2, ?_, ?_, ?_⟩ <;> (show _ < wr.heap.size; omega)
          have y3d : wr.drew.cell? ⟨bx, 3, none⟩ = some (.slice (some ⟨sb, so, none⟩) n uc) := y3
          have HK : Hid _ := And.intro RL (And.intro hst (And.intro etk (And.intro hqk hen)))
          have HB : Hid _ := And.intro hbw (And.intro hcs (And.intro hsb (And.intro (sameFrm x0 x1 x2 wr.drew) L4)))
          clear hen cs cr hcs hcr hst efx hbw bd RL etk hqk L4
          go_upto_region 39 with fail
          go_cut [264] from 250 to 285 (fun v wx => v = .bool false ∧ LO8 w5 wx c1 c2 opd2 may2 bx ⟨q0, q1, q2, fr⟩ (.slice (some ⟨sb, so, none⟩) n uc))
          case first =>
            as_aux_lemma =>
            go_region_held3 (fun w' => w'.cell? ⟨bx, 3, none⟩ = some (.slice (some ⟨sb, so, none⟩) n uc) ∧ w'.cell? ⟨fb, fo + i * 4 + 3, none⟩ = some (.slice (some ⟨rb, ro, none⟩) n tc) ∧ w'.cell? ⟨sb, so + k * 8, none⟩ = some (.int .i64 x0) ∧ w'.cell? ⟨rb, ro + k * 8, none⟩ = some (.int .i64 x0) ∧ w'.cell? ⟨sb, so + k * 8 + 1, none⟩ = some (.int .i64 x1) ∧ w'.cell? ⟨rb, ro + k * 8 + 1, none⟩ = some (.int .i64 x1) ∧ w'.cell? ⟨sb, so + k * 8 + 2, none⟩ = some (.int .i64 x2) ∧ w'.cell? ⟨rb, ro + k * 8 + 2, none⟩ = some (.int .i64 x2) ∧ w'.cell? ⟨sb, so + k * 8 + 3, none⟩ = some (.int .i64 0) ∧ w'.cell? ⟨rb, ro + k * 8 + 3, none⟩ = some (.int .i64 0) ∧ w'.cell? ⟨sb, so + k * 8 + 4, none⟩ = some (.bool false) ∧ w'.cell? ⟨rb, ro + k * 8 + 4, none⟩ = some (.bool false) ∧ w'.cell? ⟨sb, so + k * 8 + 5, none⟩ = some (.slice none 0 0) ∧ w'.cell? ⟨rb, ro + k * 8 + 5, none⟩ = some (.slice none 0 0) ∧ w'.cell? ⟨sb, so + k * 8 + 6, none⟩ = some (.slice none 0 0) ∧ w'.cell? ⟨rb, ro + k * 8 + 6, none⟩ = some (.slice none 0 0) ∧ w'.cell? ⟨sb, so + k * 8 + 7, none⟩ = some (.slice none 0 0) ∧ w'.cell? ⟨rb, ro + k * 8 + 7, none⟩ = some (.slice none 0 0)) (go_keep) (first | (go_at_call 10; refine HB.out.2.2.2.1.mono ?_; rintro e wz ⟨rfl, hz⟩; have z0 := (hz.cell (p := ⟨bx, 3, none⟩) HB.out.2.2.2.2.1).trans y3d; have z1 := (hz.cell (p := ⟨fb, fo + i * 4 + 3, none⟩) HB.out.2.2.2.2.2.1).trans cu; have za0 := (hz.cell (p := ⟨sb, so + k * 8, none⟩) HB.out.2.2.2.2.2.2.1).trans a0; have zb0 := (hz.cell (p := ⟨rb, ro + k * 8, none⟩) HB.out.2.2.2.2.2.2.2).trans b0; have za1 := (hz.cell (p := ⟨sb, so + k * 8 + 1, none⟩) HB.out.2.2.2.2.2.2.1).trans a1; have zb1 := (hz.cell (p := ⟨rb, ro + k * 8 + 1, none⟩) HB.out.2.2.2.2.2.2.2).trans b1; have za2 := (hz.cell (p := ⟨sb, so + k * 8 + 2, none⟩) HB.out.2.2.2.2.2.2.1).trans a2; have zb2 := (hz.cell (p := ⟨rb, ro + k * 8 + 2, none⟩) HB.out.2.2.2.2.2.2.2).trans b2; have za3 := (hz.cell (p := ⟨sb, so + k * 8 + 3, none⟩) HB.out.2.2.2.2.2.2.1).trans a3; have zb3 := (hz.cell (p := ⟨rb, ro + k * 8 + 3, none⟩) HB.out.2.2.2.2.2.2.2).trans b3; have za4 := (hz.cell (p := ⟨sb, so + k * 8 + 4, none⟩) HB.out.2.2.2.2.2.2.1).trans a4; have zb4 := (hz.cell (p := ⟨rb, ro + k * 8 + 4, none⟩) HB.out.2.2.2.2.2.2.2).trans b4; have za5 := (hz.cell (p := ⟨sb, so + k * 8 + 5, none⟩) HB.out.2.2.2.2.2.2.1).trans a5; have zb5 := (hz.cell (p := ⟨rb, ro + k * 8 + 5, none⟩) HB.out.2.2.2.2.2.2.2).trans b5; have za6 := (hz.cell (p := ⟨sb, so + k * 8 + 6, none⟩) HB.out.2.2.2.2.2.2.1).trans a6; have zb6 := (hz.cell (p := ⟨rb, ro + k * 8 + 6, none⟩) HB.out.2.2.2.2.2.2.2).trans b6; have za7 := (hz.cell (p := ⟨sb, so + k * 8 + 7, none⟩) HB.out.2.2.2.2.2.2.1).trans a7; have zb7 := (hz.cell (p := ⟨rb, ro + k * 8 + 7, none⟩) HB.out.2.2.2.2.2.2.2).trans b7; have HZ : Hid (Below wr.drew.heap.size wr.drew wz) := hz; clear hz))
            all_goals
              go_wp2_with fail
              go_meet
              exact ⟨rfl, (HK.out.1.drewN 1).below HZ.out⟩
          case rest =>
          obtain ⟨rfl, RM⟩ := hcut
          obtain ⟨y0, y1, y2, y3⟩ := RM.y
          dsimp only at y0 y1 y2 y3
          have g0 : wc.cell? ⟨sb, so + k * 8, none⟩ = some (.int .i64 x0) := (HB.out.1 _ RM.bo.bw _ _ HB.out.2.2.1).trans (HB.out.2.1 0 (by omega))
          have g1 : wc.cell? ⟨sb, so + k * 8 + 1, none⟩ = some (.int .i64 x1) := (HB.out.1 _ RM.bo.bw _ _ HB.out.2.2.1).trans (HB.out.2.1 1 (by omega))
          have HM9 : Hid _ := RM
          clear RM y3d a0 b0 a1 b1 a2 b2 a3 b3 a4 b4 a5 b5 a6 b6 a7 b7 cu hfbr
          by_cases e16 : x0 = 16
          · have t0 : (x0 == 16) = true := by simpa using e16
            have hlt2 := HK.out.2.1.2 e16
            have hle : decide (x1 ≤ tk) = false := by rw [decide_eq_false_iff_not]; omega
            have HT2 : Hid _ := And.intro e16 True.intro
            clear e16 hlt2
            as_aux_lemma =>
            go_wp2_with fail
            go_roundg (n - (k + 1))
            case measure => (have := HK.out.2.2.2.1; omega)
            case rel => exact ⟨k + 1, by omega, rfl, by rw [HK.out.2.1.1, if_pos HT2.out.1], by go_num, HM9.out⟩
          · have t0 : (x0 == 16) = false := by simpa using e16
            have HT2 : Hid _ := And.intro e16 True.intro
            clear e16
            as_aux_lemma =>
            go_wp2_with fail
            go_roundg (n - (k + 1))
            case measure => (have := HK.out.2.2.2.1; omega)
            case rel => exact ⟨k + 1, by omega, rfl, by rw [HK.out.2.1.1, if_neg HT2.out.1], by go_num, HM9.out⟩
        · obtain rfl : k = n := by omega
          have nlt : ¬ (k : Int) < (k : Int) := by omega
          have HK : Hid _ := And.intro RL (And.intro etk True.intro)
          clear RL etk
          as_aux_lemma =>
          go_wp2_with fail
          go_roundg (m - (i + 1))
          case measure => (have := HRm.out.2.2; omega)
          case rel =>
            refine ⟨i + 1, conn2, sent + q2, tk, opd2, may2, by omega, rfl, rfl, rfl, rfl, by go_num, fun _ => ?_, HK.out.1.bo⟩
            have h := HRm.out.2.1
            rw [HC2.out.1, HO2.out.1, HM2.out.1, HK.out.2.1, HP.out.2.2.2.2, tldK_all]
            exact h

    · obtain rfl : i = m := by omega
      have nlt : ¬ (i : Int) < (i : Int) := by omega
      go_wp2_with fail
      go_ret
      exact ⟨rfl, H5.out.2.1.trans (hL.bw.mono H5.out.2.1.size)⟩
end Go.Proofs.Ythjakbpcpfmbjaa

namespace Go.Proofs.Ythjakbpcpfmbjaa.fnFlowBooks
open Go.ChangeShapes Go.WideShapes Go.ChangeAt Go.RowKit
set_option linter.unusedVariables false

theorem own : ownKnob Try.prog.godebug = none := by kernel_rfl
theorem laidOut : laidOutB Try.prog = true := by kernel_rfl
theorem cells_b : Try.prog.cellsOf 5 = 1 := by kernel_rfl
set_option maxRecDepth 20000 in
theorem contract (H : Type) (enc : TypeId × Value → H) (W : World) (base : Nat) (args : Array Value) (ds gs : List (DataW H)) (before : List MemPlace)
    (hval : ∀ (j : Nat) t v, Try.f4.params[j]? = some t → args[j]? = some v → Value.okWide Try.prog W .any base t v)
    (hW : DataW.Whole enc Try.prog Try.f4.params.toList Rows.fnFlowBooksSpec.vars false W args.toList ds gs before) :
    Calls Try.prog 4 args W fun e W' => ∃ v, e = .returned v ∧ Rows.fnFlowBooksSpec.post enc Try.prog Try.f4 false true false false W args v W' := by
  have hW' := hW
  obtain ⟨p, q, hA0, hV, rfl, hfz, hnd⟩ := hW
  have hA : DataW.TrodAll enc Try.prog W 0 (fun _ => true) true Try.f4.params.toList args.toList ds p := hA0
  rw [Try.params4] at hA hval
  obtain ⟨v0, vs0, d0, ds0, p0, q0, hargs, rfl, rfl, h0, r0⟩ := trodAll_cons hA
  obtain ⟨rfl, rfl, rfl⟩ := trodAll_nil r0
  obtain rfl : args = #[v0] := by cases args; simp_all
  obtain ⟨rfl, rfl⟩ := trodVars_none hV
  obtain ⟨xs0, row0, len0, wf0⟩ := open_row Try.underlying22 Try.underlying5 cells_b (hval 0 22 v0 rfl rfl) h0
  refine (fnFlowBooks_walk v0 xs0 len0 wf0 W row0).mono fun e W' ⟨he, hb⟩ => ?_
  subst he
  exact ⟨_, rfl, law_post laidOut (by kernel_rfl) (by kernel_rfl) (by kernel_rfl) Try.underlying4 hW' rfl hb⟩

theorem laid_met (os : Os) : laidMet Try.prog Rows.fnFlowBooksRow.laid ((World.holding Try.prog os ⟨#[], #[], []⟩).forCall (fun _ _ => 0) ⟨#[], #[.slice none 0 0], []⟩).memory :=
  laidMet_of_run' 8 (by kernel_rfl) (by kernel_rfl)
theorem reads (os : Os) {H : Type} (enc : TypeId × Value → H) : ∃ places, DataW.whole enc Try.prog ((World.holding Try.prog os ⟨#[], #[], []⟩).forCall (fun _ _ => 0) ⟨#[], #[.slice none 0 0], []⟩).memory Try.f4.params.toList Rows.fnFlowBooksSpec.vars false #[(.slice none 0 0 : Value)].toList 8 = some ([.nil], [], places) :=
  ⟨[], by kernel_rfl⟩

set_option maxRecDepth 100000 in
theorem lifted (os : Os) (started : os.Started) (H : Type) (enc : TypeId × Value → H) (F : Stop.Interp) :
    ReturnsInHanded {} Try.checked os 4 .any ((OpenSpec.ofChange Rows.fnFlowBooksSpec).preRow enc Try.prog Try.f4 Rows.fnFlowBooksRow.domain false Rows.fnFlowBooksRow.laid) (((OpenSpec.ofChange Rows.fnFlowBooksSpec).at F).post enc Try.prog Try.f4 false true false false) := by
  obtain ⟨places, hx⟩ := reads os enc
  refine returnsInHanded_of_row (C := Try.checked) (s := OpenSpec.ofChange Rows.fnFlowBooksSpec) own started (by kernel_rfl) Try.func4
    (witness_row_at (enc := enc) (C := Try.checked) false (World.holding Try.prog os ⟨#[], #[], []⟩) #[.slice none 0 0] rfl (by kernel_rfl) (by kernel_rfl) (by kernel_rfl)
      (OpenSpec.preRow_of_cond 8 hx (by kernel_rfl) (fun k hk => by cases hk) (by kernel_rfl) (laid_met os))) ?_
  intro W base args ds gs before hval hW _ _ _ hL _ _
  exact contract H enc W base args ds gs before hval hW

theorem said : Rows.FnFlowBooksSaid :=
  OpenClaim.holds_of_cond 4 Try.f4 rfl rfl rfl rfl rfl rfl rfl ⟨rfl, rfl, rfl, rfl, rfl⟩ rfl rfl rfl rfl rfl (by kernel_rfl) Try.func4 (by kernel_rfl)
    (of_decide_eq_true (by kernel_rfl)) (by unfold Func.isWrapper; first | (rw [if_pos (by decide +kernel)]; kernel_rfl) | (rw [if_neg (by decide +kernel)]; exact ⟨rfl, rfl⟩))
    (fun os started H enc _ F => by rw [OpenClaim.pre_eq_preRow]; exact lifted os started H enc F)

end Go.Proofs.Ythjakbpcpfmbjaa.fnFlowBooks

namespace Go.Proofs.Ythjakbpcpfmbjaa
theorem fnFlowBooks_holds : Rows.FnFlowBooksSaid := fnFlowBooks.said
#print axioms fnFlowBooks_holds
end Go.Proofs.Ythjakbpcpfmbjaa
