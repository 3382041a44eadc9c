import Derived.Test.YtoebogcglcaikaaRows
import Derived.WalkKit
import Derived.ProofKit
import Derived.OpenShut
import Derived.OpenVars
import Derived.Deep.DeepHandedRow
import Derived.Test.YtoebogcglcaikaaMem
import Derived.Test.YtoebogcglcaikaaSrcB
import Derived.Test.YtoebogcglcaikaaKeysOf
import Derived.Test.YtoebogcglcaikaaBook
import Derived.Deep.RegionWith
import Derived.Deep.CutRange
import Derived.Test.YtoebogcglcaikaaSource
import Derived.Test.YtoebogcglcaikaaSrc4
import Derived.Test.YtoebogcglcaikaaStrNe
import Derived.Test.YtoebogcglcaikaaAppRow
import Derived.Test.YtoebogcglcaikaaOpenS
import Derived.Test.YtoebogcglcaikaaIOpenAll
import Derived.Test.YtoebogcglcaikaaINextKeys
import Derived.Lib.LaidTab
namespace Go.Proofs.Ytoebogcglcaikaa
open Go.ChangeShapes Go.WideShapes Go.ChangeAt Go.RowKit

/-- Each parameter's type can be read, and is a row of the table: one closed fact. -/
def typesRowed (P : Program) (ts : List TypeId) : Bool := ts.all fun t => P.readableRec t && decide (t < P.types.size)

theorem below_trodAll {H : Type} {enc : TypeId × Value → H} {P : Program} (hl : laidOutB P = true) {W W' : World} (hb : Below W.heap.size W W') :
    ∀ {ts : List TypeId} {vs : List Value} {ds : List (DataW H)} {ps : List MemPlace}, typesRowed P ts = true → DataW.TrodAll enc P W 0 (fun _ => true) true ts vs ds ps → (∀ x ∈ ps, x.block < W.heap.size) →
      DataW.TrodAll enc P W' 0 (fun b => decide (b < W.heap.size)) true ts vs ds ps
  | [], [], [], _, _, h, _ => h
  | [], _ :: _, _, _, _, h, _ => h.elim
  | [], [], _ :: _, _, _, h, _ => h.elim
  | _ :: _, [], _, _, _, h, _ => h.elim
  | _ :: _, _ :: _, [], _, _, h, _ => h.elim
  | t :: ts, v :: vs, d :: ds, ps, hr, h, hlt => by
    obtain ⟨p, q, h1, h2, rfl⟩ := h
    simp only [typesRowed, List.all_cons, Bool.and_eq_true, decide_eq_true_eq] at hr
    exact ⟨p, q, Below.trod hl hr.1.1 hr.1.2 h1 hb (fun x hx => hlt x (by simp [hx])), below_trodAll hl hb (by simpa [typesRowed] using hr.2) h2 (fun x hx => hlt x (by simp [hx])), rfl⟩

/-- WHAT A LAW's ROW ASKS, out of 'it returned true, and of what was there before nothing has turned'. -/
theorem law_post {H : Type} {enc : TypeId × Value → H} {P : Program} {f : Func} {s : ChangeSpec} {W W' : World} {args : Array Value} {ds gs : List (DataW H)} {before : List MemPlace} {tb : TypeId}
    (hl : laidOutB P = true) (hp : typesRowed P f.params.toList = true) (hv : varsRowed P s.vars = true) (hr : f.resultTypes = #[tb]) (hu : P.underlying tb = some .bool)
    (hW : DataW.Whole enc P f.params.toList s.vars false W args.toList ds gs before)
    (hs : s.fn H (ds ++ gs) = { results := [.lit (.bool true)], args := ds, vars := gs }) (hb : Below W.heap.size W W') :
    s.post enc P f false true false false W args (.bool true) W' := by
  have hW' := hW
  obtain ⟨p, q, hA, hV, rfl, hfz, hnd⟩ := hW
  have hlt : ∀ x ∈ p ++ q, x.block < W.heap.size := fun x hx => hW'.lt x hx
  refine ⟨ds, gs, p ++ q, [], p, q, hW', ?_, ?_, ?_, hb.frame _, fun h => by cases h⟩
  · rw [hs, hr]
    exact trodAll_mk1 (shut_bool hu _)
  · rw [hs]
    exact below_trodAll hl hb hp hA (fun x hx => hlt x (by simp [hx]))
  · rw [hs]
    exact Below.trodVars hl hb hv hV

theorem cell_lt {w : World} {b o : Nat} {u : Value} (h : w.cell? ⟨b, o, none⟩ = some u) : b < w.heap.size := by
  refine Nat.lt_of_not_le (fun hn => ?_)
  have e : w.heap[b]? = none := Array.getElem?_eq_none (by omega)
  simp [World.cell?, e] at h

/-- AN ARGUMENT THAT IS A SLICE OF NUMBERS: it reads as some numbers of its kind. -/
theorem open_row {H : Type} {enc : TypeId × Value → H} {P : Program} {W : World} {r : Reach} {base : Nat} {t e : TypeId} {k : IntKind} {v : Value} {d : DataW H} {p : List MemPlace}
    (ht : P.underlying t = some (.slice e)) (he : P.underlying e = some (.int k)) (hc : P.cellsOf e = 1) (hval : Value.okWide P W r base t v) (h : DataW.Trod enc P W 0 (fun _ => true) true t v d p) :
    ∃ xs : List Int, Row W k v xs ∧ xs.length ≤ maxLen ∧ ∀ x ∈ xs, (Lit.int k x).wf = true := by
  obtain ⟨a0, len, cap, rfl⟩ := okWide_slice ht hval
  obtain ⟨fuel, hf⟩ := h
  rcases open_ints ht he hc hf with ⟨hcs, hx⟩ | ⟨a, len', cap', zs, hcs, _, hl, hm, hz, hx, hcell, hwz⟩
  · have : Value.slice a0 len cap = .slice none 0 0 := by simpa [Value.cells] using hcs
    rw [this]
    exact ⟨[], Or.inl ⟨rfl, none, 0, rfl⟩, by simp, by simp⟩
  · have : Value.slice a0 len cap = .slice (some a) len' cap' := by simpa [Value.cells] using hcs
    rw [this]
    have hzl : zs.length = cap' := by simpa using hz
    have htl : (zs.take len').length = len' := by rw [List.length_take]; omega
    refine ⟨zs.take len', ?_, by rw [htl]; omega, fun x hx => hwz x (List.mem_of_mem_take hx)⟩
    by_cases h0 : len' = 0
    · subst h0
      exact Or.inl ⟨by simp, _, _, rfl⟩
    · obtain ⟨b, off, rfl, hcc⟩ := ints_at hcell (by omega)
      refine Or.inr ⟨b, off, cap', by rw [htl], cell_lt (hcc 0 (by omega)), by rw [htl]; exact ⟨hl, hm⟩, fun j hj => ?_⟩
      rw [htl] at hj
      rw [hcc j (by omega)]
      simp [List.getD, hj]
end Go.Proofs.Ytoebogcglcaikaa

namespace Go.Proofs.Ytoebogcglcaikaa
open Go.RowKit
set_option linter.unusedVariables false

theorem grown_of_below {w w' : World} (h : Below w.heap.size w w') (r : Option Nat) : w.grownBy w' r := ⟨h.os, h.tape, h.output, h.size, fun k hk _ => h.block k hk⟩
theorem Drw.below {w w' : World} {g : Nat} {v : Value} {xs : List Int} {s : St} (h : Drw w g v xs s) (hb : Below w.heap.size w w') : Drw w' g v xs s :=
  h.kept (grown_of_below hb none) (by simp) (by intros; simp)
theorem KOwns.grown {w w' : World} {base : Nat} {v : Value} {k : K4} {g : Nat} (h : KOwns w base v k) (hg : w.grownBy w' (some g)) (hb : g < base) : KOwns w' base v k := by
  obtain ⟨v0, v1, v2, v3, e, q⟩ := h
  exact ⟨v0, v1, v2, v3, e, own_step q.o0 hg hb, own_step q.o1 hg hb, own_step q.o2 hg hb, own_step q.o3 hg hb, q.a01, q.a02, q.a03, q.a12, q.a13, q.a23⟩
theorem Book.step {wx w' : World} {L : List (Nat × Obj)} {g : Nat} (h : Book wx L) (hc : wx.grownBy w' (some g)) (hs : ∀ b o, (b, o) ∈ L → b ≠ g) : Book w' L :=
  ⟨fun b o hm => (hc.block b (h.lt hm) (fun e => hs b o hm (Option.some.inj e))).trans (h.blk b o hm)⟩

theorem low_mono {B B' : Nat} {v : Value} (h : Low B v) (hb : B ≤ B') : Low B' v := fun b off n cap h0 e => Nat.lt_of_lt_of_le (h b off n cap h0 e) hb
theorem kowns_set {w : World} {base g i : Nat} {u v : Value} {k : K4} (h : KOwns w base v k) (hb : g < base) : KOwns (w.setCell ⟨g, i, none⟩ u) base v k := by
  obtain ⟨v0, v1, v2, v3, e, q⟩ := h
  exact ⟨v0, v1, v2, v3, e, owns_cell3 q.o0 hb, owns_cell3 q.o1 hb, owns_cell3 q.o2 hb, owns_cell3 q.o3 hb, q.a01, q.a02, q.a03, q.a12, q.a13, q.a23⟩
theorem drw_set {w : World} {g b i : Nat} {u v : Value} {xs : List Int} {s : St} (h : Drw w g v xs s) (hb : b ≠ g) (hl : Low b v) : Drw (w.setCell ⟨b, i, none⟩ u) g v xs s :=
  h.kept (grown_setCell w b i u) (fun e => hb (Option.some.inj e).symm) (fun b' off n cap h0 e e' => by have := hl b' off n cap h0 e; have := Option.some.inj e'; omega)
theorem grown_set {w wx : World} {g b i : Nat} {u : Value} (h : w.grownBy wx (some g)) (hb : w.heap.size ≤ b) : w.grownBy (wx.setCell ⟨b, i, none⟩ u) (some g) :=
  grown_own h (grown_setCell wx b i u) (fun k e => by have := Option.some.inj e; omega)

set_option maxHeartbeats 1000000 in
theorem keysC (g : Nat) (c : Value) (xs : List Int) (s : St) (w : World) (h : Drw w g c xs s) (hlow : Low w.heap.size c) (hp : s.pos ≤ 1099511500000) :
    Calls Try.prog 43 #[.pointer (some ⟨g, 0, none⟩)] w fun e w' => ∃ r, e = .returned r ∧ KOwns w' w.heap.size r (keysV (bysV xs s 16)) ∧ Drw w' g c xs (bysS xs s 16) ∧ w.grownBy w' (some g) := by
  have hgl := drw_lt h
  have B := bytesC g c xs s 16 (w.alloc (.cells #[.slice none 0 0, .slice none 0 0, .slice none 0 0, .slice none 0 0] 24)) (drw_alloc h _) (low_mono hlow (by simp)) hp (by decide)
  rw [show ((16 : Nat) : Int) = 16 from rfl] at B
  have HB : Hid _ := And.intro h.bytes (And.intro hlow ((Book.nil w).add (.cells #[.slice none 0 0, .slice none 0 0, .slice none 0 0, .slice none 0 0] 24)))
  clear h hlow
  go_enter Try.func43, Try.ntmps43
  go_wp2_with fail
  go_at_call 33
  refine B.mono ?_
  rintro e w1 ⟨r1, rfl, o1, d1, g1⟩
  have z1 : w.heap.size + 1 ≤ w1.heap.size := by have := g1.size; simpa using this
  have k1 := HB.out.2.2.step g1 (fun b o hm => by simp at hm; have := hm.1; omega)
  have H1 : Hid _ := And.intro (row_of_owns o1) (And.intro d1 (And.intro (grown_trans (World.grownBy_alloc w _ (some g)) g1) k1))
  clear o1 d1 g1 k1 B
  go_wp2_with fail
  go_at_call 27
  refine (specKeysOf _ (bysV xs s 16) w1 H1.out.1 (bysV_bytes _ _ _ HB.out.1) (by rw [bysV_length]; decide)).mono ?_
  rintro e w2 ⟨r2, rfl, o2, b2⟩
  obtain ⟨ra0, ra1, ra2, ra3, rp0, rp1, rp2, rp3, er⟩ := KOwns.parts o2
  subst er
  have k2 := H1.out.2.2.2.below b2
  have kb2 := k2.blk w.heap.size _ (List.mem_cons_self ..)
  have zy0 : w2.cell? ⟨w.heap.size, 0, none⟩ = some (.slice none 0 0) := by rw [bk_cell kb2]; rfl
  have zf0 : w2.frozen? ⟨w.heap.size, 0, none⟩ = false := bk_free kb2 0
  have zy1 : w2.cell? ⟨w.heap.size, 1, none⟩ = some (.slice none 0 0) := by rw [bk_cell kb2]; rfl
  have zf1 : w2.frozen? ⟨w.heap.size, 1, none⟩ = false := bk_free kb2 1
  have zy2 : w2.cell? ⟨w.heap.size, 2, none⟩ = some (.slice none 0 0) := by rw [bk_cell kb2]; rfl
  have zf2 : w2.frozen? ⟨w.heap.size, 2, none⟩ = false := bk_free kb2 2
  have zy3 : w2.cell? ⟨w.heap.size, 3, none⟩ = some (.slice none 0 0) := by rw [bk_cell kb2]; rfl
  have zf3 : w2.frozen? ⟨w.heap.size, 3, none⟩ = false := bk_free kb2 3
  have HF : Hid _ := And.intro (o2.mono z1) (And.intro (H1.out.2.1.below b2) (And.intro (grown_trans H1.out.2.2.1 (grown_of_below b2 _)) kb2))
  clear o2 b2 k2 kb2
  go_wp2
  try simp only [Exit.inBlock, Exit.then]
  refine bodyPost_ret (v := .agg #[.slice ra0 (keysV (bysV xs s 16)).a.length rp0, .slice ra1 (keysV (bysV xs s 16)).b.length rp1, .slice ra2 (keysV (bysV xs s 16)).c.length rp2, .slice ra3 (keysV (bysV xs s 16)).d.length rp3]) ?_ rfl ?_
  · refine results_cell_row (t := 24) rfl _ _ w.heap.size _ (fr := (0, 0)) _ rfl ?_ Try.underlying24 rfl infoKeys4
    rw [bk_set (bk_set (bk_set (bk_set HF.out.2.2.2 0 _) 1 _) 2 _) 3 _]
    rfl
  · refine ⟨_, rfl, KOwns.mono (kowns_set (kowns_set (kowns_set (kowns_set HF.out.1 (Nat.lt_succ_self _)) (Nat.lt_succ_self _)) (Nat.lt_succ_self _)) (Nat.lt_succ_self _)) (Nat.le_succ _), ?_, ?_⟩
    · exact drw_set (drw_set (drw_set (drw_set HF.out.2.1 (by omega) HB.out.2.1) (by omega) HB.out.2.1) (by omega) HB.out.2.1) (by omega) HB.out.2.1
    · exact grown_set (grown_set (grown_set (grown_set HF.out.2.2.1 (Nat.le_refl _)) (Nat.le_refl _)) (Nat.le_refl _)) (Nat.le_refl _)

/-- Keys of which one part may have another length; the state behind them. -/
def bkT (xs : List Int) (s : St) : Int := nextV xs 12 (bysS xs s 16)
def bkZ (xs : List Int) (s : St) : St := nextS xs 12 (bysS xs s 16)
def bkV (xs : List Int) (s : St) : K4 :=
  if bkT xs s = 0 then ⟨(keysV (bysV xs s 16)).a.take (nextV xs 16 (bkZ xs s)).toNat, (keysV (bysV xs s 16)).b, (keysV (bysV xs s 16)).c, (keysV (bysV xs s 16)).d⟩
  else if bkT xs s = 1 then ⟨(keysV (bysV xs s 16)).a, (keysV (bysV xs s 16)).b ++ [1], (keysV (bysV xs s 16)).c, (keysV (bysV xs s 16)).d⟩
  else if bkT xs s = 2 then ⟨(keysV (bysV xs s 16)).a, (keysV (bysV xs s 16)).b, (keysV (bysV xs s 16)).c.take (nextV xs 8 (bkZ xs s)).toNat, (keysV (bysV xs s 16)).d⟩
  else if bkT xs s = 3 then ⟨(keysV (bysV xs s 16)).a, (keysV (bysV xs s 16)).b, (keysV (bysV xs s 16)).c, bysV xs (nextS xs 20 (bkZ xs s)) (nextV xs 20 (bkZ xs s)).toNat⟩
  else keysV (bysV xs s 16)
def bkS (xs : List Int) (s : St) : St :=
  if bkT xs s = 0 then nextS xs 16 (bkZ xs s) else if bkT xs s = 1 then bkZ xs s else if bkT xs s = 2 then nextS xs 8 (bkZ xs s)
  else if bkT xs s = 3 then bysS xs (nextS xs 20 (bkZ xs s)) (nextV xs 20 (bkZ xs s)).toNat else bkZ xs s
/-- Keys that lie behind a block read as they did when that block is written. -/
def KHigh (w : World) (b : Nat) (v : Value) (k : K4) : Prop := ∃ base, b < base ∧ ∃ v0 v1 v2 v3, v = .agg #[v0, v1, v2, v3] ∧ w.ownsRow base 5 1 v0 k.a.length (k.a.map (Value.int .u8)) ∧ w.ownsRow base 5 1 v1 k.b.length (k.b.map (Value.int .u8)) ∧ w.ownsRow base 5 1 v2 k.c.length (k.c.map (Value.int .u8)) ∧ w.ownsRow base 5 1 v3 k.d.length (k.d.map (Value.int .u8))
theorem KHigh.set {w : World} {b i : Nat} {u v : Value} {k : K4} (h : KHigh w b v k) : KHigh (w.setCell ⟨b, i, none⟩ u) b v k := by
  obtain ⟨base, hb, v0, v1, v2, v3, e, h0, h1, h2, h3⟩ := h
  exact ⟨base, hb, v0, v1, v2, v3, e, owns_cell3 h0 hb, owns_cell3 h1 hb, owns_cell3 h2 hb, owns_cell3 h3 hb⟩
theorem KRow.set4 {w : World} {b : Nat} {u0 u1 u2 u3 v : Value} {k : K4} (h : KHigh w b v k) : KRow ((((w.setCell ⟨b, 0, none⟩ u0).setCell ⟨b, 1, none⟩ u1).setCell ⟨b, 2, none⟩ u2).setCell ⟨b, 3, none⟩ u3) v k := by
  obtain ⟨base, hb, v0, v1, v2, v3, e, h0, h1, h2, h3⟩ := h.set.set.set.set (i := 3)
  exact ⟨v0, v1, v2, v3, e, row_of_owns h0, row_of_owns h1, row_of_owns h2, row_of_owns h3⟩
theorem KOwns.high {w : World} {base b : Nat} {v : Value} {k : K4} (h : KOwns w base v k) (hb : b < base) : KHigh w b v k := by
  obtain ⟨v0, v1, v2, v3, e, q⟩ := h
  exact ⟨base, hb, v0, v1, v2, v3, e, q.o0, q.o1, q.o2, q.o3⟩

set_option maxRecDepth 20000 in
set_option maxHeartbeats 2000000 in
theorem bad_none (g : Nat) (c : Value) (xs : List Int) (s : St) (w : World) (h : Drw w g c xs s) (hlow : Low w.heap.size c) (hp : s.pos ≤ 1099511400000) (hT : 4 ≤ bkT xs s) :
    Calls Try.prog 31 #[.pointer (some ⟨g, 0, none⟩)] w fun e w' => ∃ r, e = .returned r ∧ KRow w' r (bkV xs s) ∧ Drw w' g c xs (bkS xs s) ∧ w.grownBy w' (some g) := by
  have hgl := drw_lt h
  have A := keysC g c xs s (w.alloc (.cells #[.slice none 0 0, .slice none 0 0, .slice none 0 0, .slice none 0 0] 24)) (drw_alloc h _) (low_mono hlow (by simp)) (by omega)
  have hps := bysS_pos xs s 16
  have NX := fun (wx : World) hd => nextC g c xs 12 (bysS xs s 16) wx hd (by omega) (by decide) (by decide)
  have hz := nextS_pos xs 12 (bysS xs s 16)
  have HB : Hid _ := And.intro hlow (And.intro ((Book.nil w).add (.cells #[.slice none 0 0, .slice none 0 0, .slice none 0 0, .slice none 0 0] 24)) h.bytes)
  have eT : nextV xs 12 (bysS xs s 16) = bkT xs s := rfl
  have eZ : nextS xs 12 (bysS xs s 16) = bkZ xs s := rfl
  rw [eT, eZ] at NX
  rw [eZ] at hz
  have e1 : bkV xs s = keysV (bysV xs s 16) := by unfold bkV; rw [if_neg (by omega), if_neg (by omega), if_neg (by omega), if_neg (by omega)]
  have e2 : bkS xs s = bkZ xs s := by unfold bkS; rw [if_neg (by omega), if_neg (by omega), if_neg (by omega), if_neg (by omega)]
  rw [e2]
  have E1 : Hid _ := And.intro e1 True.intro
  generalize bkT xs s = t at NX hT
  have t0 : (t == 0) = false := by rw [beq_eq_false_iff_ne]; omega
  have t1 : (t == 1) = false := by rw [beq_eq_false_iff_ne]; omega
  have t2 : (t == 2) = false := by rw [beq_eq_false_iff_ne]; omega
  have t3 : (t == 3) = false := by rw [beq_eq_false_iff_ne]; omega
  clear e1 e2
  have HN : Hid _ := And.intro NX True.intro
  clear h hlow eZ NX
  go_enter Try.func31, Try.ntmps31
  go_wp2_with fail
  go_at_call 43
  refine A.mono ?_
  rintro e w1 ⟨r1, rfl, o1, d1, g1⟩
  rw [World.size_alloc] at o1
  obtain ⟨ra0, ra1, ra2, ra3, rp0, rp1, rp2, rp3, er⟩ := KOwns.parts o1
  subst er
  have z1 : w.heap.size + 1 ≤ w1.heap.size := by have := g1.size; simpa using this
  have k1 := (HB.out.2.1.step g1 (fun b o hm => by simp at hm; have := hm.1; omega)).add (.cells #[.slice ra0 (keysV (bysV xs s 16)).a.length rp0, .slice ra1 (keysV (bysV xs s 16)).b.length rp1, .slice ra2 (keysV (bysV xs s 16)).c.length rp2, .slice ra3 (keysV (bysV xs s 16)).d.length rp3] 24)
  have al : Below w1.heap.size w1 (w1.alloc (.cells #[.slice ra0 (keysV (bysV xs s 16)).a.length rp0, .slice ra1 (keysV (bysV xs s 16)).b.length rp1, .slice ra2 (keysV (bysV xs s 16)).c.length rp2, .slice ra3 (keysV (bysV xs s 16)).d.length rp3] 24)) := (Below.refl _ _).alloc (Nat.le_refl _) _
  have UB : Hid (∀ g, KBlk (.agg #[.slice ra0 (keysV (bysV xs s 16)).a.length rp0, .slice ra1 (keysV (bysV xs s 16)).b.length rp1, .slice ra2 (keysV (bysV xs s 16)).c.length rp2, .slice ra3 (keysV (bysV xs s 16)).d.length rp3]) g → g < w1.heap.size) := fun g hg => (KOwns.blk o1 g hg).2
  have H1 : Hid _ := And.intro (o1.below al) (And.intro (d1.below al) (And.intro (grown_trans (grown_trans (World.grownBy_alloc w _ (some g)) g1) (grown_of_below al _)) k1))
  clear o1 d1 g1 k1 al A
  go_wp2_with fail
  go_at_call 34
  refine (HN.out.1 _ H1.out.2.1).mono ?_
  rintro e w2 ⟨rfl, d2, g2⟩
  have z2 : w1.heap.size + 1 ≤ w2.heap.size := by have := g2.size; simpa using this
  have k2 := H1.out.2.2.2.step g2 (fun b o hm => by simp at hm; rcases hm with ⟨hm, _⟩ | ⟨hm, _⟩ <;> omega)
  have H2 : Hid _ := And.intro (H1.out.1.grown g2 (by omega)) (And.intro d2 (And.intro (grown_trans H1.out.2.2.1 g2) k2))
  clear d2 g2 k2
  have y0 : w2.cell? ⟨w1.heap.size, 0, none⟩ = some (.slice ra0 (keysV (bysV xs s 16)).a.length rp0) := by rw [bk_cell (H2.out.2.2.2.blk w1.heap.size (.cells #[.slice ra0 (keysV (bysV xs s 16)).a.length rp0, .slice ra1 (keysV (bysV xs s 16)).b.length rp1, .slice ra2 (keysV (bysV xs s 16)).c.length rp2, .slice ra3 (keysV (bysV xs s 16)).d.length rp3] 24) (by simp)) 0]; rfl
  have y1 : w2.cell? ⟨w1.heap.size, 1, none⟩ = some (.slice ra1 (keysV (bysV xs s 16)).b.length rp1) := by rw [bk_cell (H2.out.2.2.2.blk w1.heap.size (.cells #[.slice ra0 (keysV (bysV xs s 16)).a.length rp0, .slice ra1 (keysV (bysV xs s 16)).b.length rp1, .slice ra2 (keysV (bysV xs s 16)).c.length rp2, .slice ra3 (keysV (bysV xs s 16)).d.length rp3] 24) (by simp)) 1]; rfl
  have y2 : w2.cell? ⟨w1.heap.size, 2, none⟩ = some (.slice ra2 (keysV (bysV xs s 16)).c.length rp2) := by rw [bk_cell (H2.out.2.2.2.blk w1.heap.size (.cells #[.slice ra0 (keysV (bysV xs s 16)).a.length rp0, .slice ra1 (keysV (bysV xs s 16)).b.length rp1, .slice ra2 (keysV (bysV xs s 16)).c.length rp2, .slice ra3 (keysV (bysV xs s 16)).d.length rp3] 24) (by simp)) 2]; rfl
  have y3 : w2.cell? ⟨w1.heap.size, 3, none⟩ = some (.slice ra3 (keysV (bysV xs s 16)).d.length rp3) := by rw [bk_cell (H2.out.2.2.2.blk w1.heap.size (.cells #[.slice ra0 (keysV (bysV xs s 16)).a.length rp0, .slice ra1 (keysV (bysV xs s 16)).b.length rp1, .slice ra2 (keysV (bysV xs s 16)).c.length rp2, .slice ra3 (keysV (bysV xs s 16)).d.length rp3] 24) (by simp)) 3]; rfl
  have u0 : w2.cell? ⟨w.heap.size, 0, none⟩ = some (.slice none 0 0) := by rw [bk_cell (H2.out.2.2.2.blk w.heap.size (.cells #[.slice none 0 0, .slice none 0 0, .slice none 0 0, .slice none 0 0] 24) (by simp)) 0]; rfl
  have f0 : w2.frozen? ⟨w.heap.size, 0, none⟩ = false := bk_free (H2.out.2.2.2.blk w.heap.size (.cells #[.slice none 0 0, .slice none 0 0, .slice none 0 0, .slice none 0 0] 24) (by simp)) 0
  have u1 : w2.cell? ⟨w.heap.size, 1, none⟩ = some (.slice none 0 0) := by rw [bk_cell (H2.out.2.2.2.blk w.heap.size (.cells #[.slice none 0 0, .slice none 0 0, .slice none 0 0, .slice none 0 0] 24) (by simp)) 1]; rfl
  have f1 : w2.frozen? ⟨w.heap.size, 1, none⟩ = false := bk_free (H2.out.2.2.2.blk w.heap.size (.cells #[.slice none 0 0, .slice none 0 0, .slice none 0 0, .slice none 0 0] 24) (by simp)) 1
  have u2 : w2.cell? ⟨w.heap.size, 2, none⟩ = some (.slice none 0 0) := by rw [bk_cell (H2.out.2.2.2.blk w.heap.size (.cells #[.slice none 0 0, .slice none 0 0, .slice none 0 0, .slice none 0 0] 24) (by simp)) 2]; rfl
  have f2 : w2.frozen? ⟨w.heap.size, 2, none⟩ = false := bk_free (H2.out.2.2.2.blk w.heap.size (.cells #[.slice none 0 0, .slice none 0 0, .slice none 0 0, .slice none 0 0] 24) (by simp)) 2
  have u3 : w2.cell? ⟨w.heap.size, 3, none⟩ = some (.slice none 0 0) := by rw [bk_cell (H2.out.2.2.2.blk w.heap.size (.cells #[.slice none 0 0, .slice none 0 0, .slice none 0 0, .slice none 0 0] 24) (by simp)) 3]; rfl
  have f3 : w2.frozen? ⟨w.heap.size, 3, none⟩ = false := bk_free (H2.out.2.2.2.blk w.heap.size (.cells #[.slice none 0 0, .slice none 0 0, .slice none 0 0, .slice none 0 0] 24) (by simp)) 3
  go_wp2
  try simp only [Exit.inBlock, Exit.then]
  refine bodyPost_ret (v := .agg #[.slice ra0 (keysV (bysV xs s 16)).a.length rp0, .slice ra1 (keysV (bysV xs s 16)).b.length rp1, .slice ra2 (keysV (bysV xs s 16)).c.length rp2, .slice ra3 (keysV (bysV xs s 16)).d.length rp3]) ?_ rfl ?_
  · refine results_cell_row (t := 24) rfl _ _ w.heap.size _ (fr := (0, 0)) _ rfl ?_ Try.underlying24 rfl infoKeys4
    rw [bk_set (bk_set (bk_set (bk_set (H2.out.2.2.2.blk w.heap.size (.cells #[.slice none 0 0, .slice none 0 0, .slice none 0 0, .slice none 0 0] 24) (by simp)) 0 _) 1 _) 2 _) 3 _]
    rfl
  · refine ⟨_, rfl, ?_, ?_, ?_⟩
    · rw [E1.out.1]
      exact KRow.set4 (KOwns.high H2.out.1 (Nat.lt_succ_self _))
    · exact drw_set (drw_set (drw_set (drw_set H2.out.2.1 (by omega) HB.out.1) (by omega) HB.out.1) (by omega) HB.out.1) (by omega) HB.out.1
    · exact grown_set (grown_set (grown_set (grown_set H2.out.2.2.1 (Nat.le_refl _)) (Nat.le_refl _)) (Nat.le_refl _)) (Nat.le_refl _)
theorem kowns_off {w : World} {base b i : Nat} {u v : Value} {k : K4} (h : KOwns w base v k) (hs : ∀ g, KBlk v g → g < b) : KOwns (w.setCell ⟨b, i, none⟩ u) base v k :=
  Chg.kowns2 (S := fun g => g = b) (Chg.of_only (Only.setCell (w := w) ⟨b, i, none⟩ u) (fun g e => (Option.some.inj e).symm)) h (fun g hg e => by have := hs g hg; omega)
theorem owns_off {w : World} {base b i n : Nat} {u v : Value} {xs : List Value} (h : w.ownsRow base 5 1 v n xs) (hb : b < base) : (w.setCell ⟨b, i, none⟩ u).ownsRow base 5 1 v n xs := owns_cell3 h hb

set_option maxRecDepth 20000 in
set_option maxHeartbeats 2000000 in
theorem bad_mask (g : Nat) (c : Value) (xs : List Int) (s : St) (w : World) (h : Drw w g c xs s) (hlow : Low w.heap.size c) (hp : s.pos ≤ 1099511400000) (hT : bkT xs s = 3) :
    Calls Try.prog 31 #[.pointer (some ⟨g, 0, none⟩)] w fun e w' => ∃ r, e = .returned r ∧ KRow w' r (bkV xs s) ∧ Drw w' g c xs (bkS xs s) ∧ w.grownBy w' (some g) := by
  have hgl := drw_lt h
  have A := keysC g c xs s (w.alloc (.cells #[.slice none 0 0, .slice none 0 0, .slice none 0 0, .slice none 0 0] 24)) (drw_alloc h _) (low_mono hlow (by simp)) (by omega)
  have hps := bysS_pos xs s 16
  have NX := fun (wx : World) hd => nextC g c xs 12 (bysS xs s 16) wx hd (by omega) (by decide) (by decide)
  have hz := nextS_pos xs 12 (bysS xs s 16)
  have HB : Hid _ := And.intro hlow (And.intro ((Book.nil w).add (.cells #[.slice none 0 0, .slice none 0 0, .slice none 0 0, .slice none 0 0] 24)) h.bytes)
  have eT : nextV xs 12 (bysS xs s 16) = bkT xs s := rfl
  have eZ : nextS xs 12 (bysS xs s 16) = bkZ xs s := rfl
  rw [eT, eZ] at NX
  rw [eZ] at hz
  obtain ⟨qn, eq⟩ := Int.eq_ofNat_of_zero_le (nextV_bd xs 20 (bkZ xs s) (by decide)).1
  have qb := (nextV_bd xs 20 (bkZ xs s) (by decide)).2
  have e1 : bkV xs s = ⟨(keysV (bysV xs s 16)).a, (keysV (bysV xs s 16)).b, (keysV (bysV xs s 16)).c, bysV xs (nextS xs 20 (bkZ xs s)) qn⟩ := by unfold bkV; rw [if_neg (by omega), if_neg (by omega), if_neg (by omega), if_pos hT, eq]; rfl
  have e2 : bkS xs s = bysS xs (nextS xs 20 (bkZ xs s)) qn := by unfold bkS; rw [if_neg (by omega), if_neg (by omega), if_neg (by omega), if_pos hT, eq]; rfl
  rw [e2]
  have E1 : Hid _ := And.intro e1 True.intro
  rw [hT] at NX
  have N20 := fun (wx : World) hd => nextC g c xs 20 (bkZ xs s) wx hd (by omega) (by decide) (by decide)
  rw [eq] at N20 qb
  have hz3 := nextS_pos xs 20 (bkZ xs s)
  have HY : Hid _ := And.intro N20 (And.intro (fun (wx : World) hd hl => bytesC g c xs (nextS xs 20 (bkZ xs s)) qn wx hd hl (by omega) (by omega)) True.intro)
  clear e1 e2 eq N20
  have HN : Hid _ := And.intro NX True.intro
  clear h hlow eZ NX
  go_enter Try.func31, Try.ntmps31
  go_wp2_with fail
  go_at_call 43
  refine A.mono ?_
  rintro e w1 ⟨r1, rfl, o1, d1, g1⟩
  rw [World.size_alloc] at o1
  obtain ⟨ra0, ra1, ra2, ra3, rp0, rp1, rp2, rp3, er⟩ := KOwns.parts o1
  subst er
  have z1 : w.heap.size + 1 ≤ w1.heap.size := by have := g1.size; simpa using this
  have k1 := (HB.out.2.1.step g1 (fun b o hm => by simp at hm; have := hm.1; omega)).add (.cells #[.slice ra0 (keysV (bysV xs s 16)).a.length rp0, .slice ra1 (keysV (bysV xs s 16)).b.length rp1, .slice ra2 (keysV (bysV xs s 16)).c.length rp2, .slice ra3 (keysV (bysV xs s 16)).d.length rp3] 24)
  have al : Below w1.heap.size w1 (w1.alloc (.cells #[.slice ra0 (keysV (bysV xs s 16)).a.length rp0, .slice ra1 (keysV (bysV xs s 16)).b.length rp1, .slice ra2 (keysV (bysV xs s 16)).c.length rp2, .slice ra3 (keysV (bysV xs s 16)).d.length rp3] 24)) := (Below.refl _ _).alloc (Nat.le_refl _) _
  have UB : Hid (∀ g, KBlk (.agg #[.slice ra0 (keysV (bysV xs s 16)).a.length rp0, .slice ra1 (keysV (bysV xs s 16)).b.length rp1, .slice ra2 (keysV (bysV xs s 16)).c.length rp2, .slice ra3 (keysV (bysV xs s 16)).d.length rp3]) g → g < w1.heap.size) := fun g hg => (KOwns.blk o1 g hg).2
  have H1 : Hid _ := And.intro (o1.below al) (And.intro (d1.below al) (And.intro (grown_trans (grown_trans (World.grownBy_alloc w _ (some g)) g1) (grown_of_below al _)) k1))
  clear o1 d1 g1 k1 al A
  go_wp2_with fail
  go_at_call 34
  refine (HN.out.1 _ H1.out.2.1).mono ?_
  rintro e w2 ⟨rfl, d2, g2⟩
  have z2 : w1.heap.size + 1 ≤ w2.heap.size := by have := g2.size; simpa using this
  have k2 := H1.out.2.2.2.step g2 (fun b o hm => by simp at hm; rcases hm with ⟨hm, _⟩ | ⟨hm, _⟩ <;> omega)
  have H2 : Hid _ := And.intro (H1.out.1.grown g2 (by omega)) (And.intro d2 (And.intro (grown_trans H1.out.2.2.1 g2) k2))
  clear d2 g2 k2
  go_wp2_with fail
  go_at_call 34
  refine (HY.out.1 _ H2.out.2.1).mono ?_
  rintro e w3 ⟨rfl, d3, g3⟩
  have z3 : w2.heap.size ≤ w3.heap.size := g3.size
  have k3 := H2.out.2.2.2.step g3 (fun b o hm => by simp at hm; rcases hm with ⟨hm, _⟩ | ⟨hm, _⟩ <;> omega)
  have H3 : Hid _ := And.intro (H2.out.1.grown g3 (by omega)) (And.intro d3 (And.intro (grown_trans H2.out.2.2.1 g3) k3))
  clear d3 g3 k3
  go_wp2_with fail
  go_at_call 33
  refine (HY.out.2.1 _ H3.out.2.1 (low_mono HB.out.1 (by omega))).mono ?_
  rintro e w4 ⟨rq, rfl, oq, d4, g4⟩
  obtain ⟨qa, qp, eqv⟩ := (row_of_owns oq).form
  rw [bysV_length] at eqv
  subst eqv
  have k4 := H3.out.2.2.2.step g4 (fun b o hm => by simp at hm; rcases hm with ⟨hm, _⟩ | ⟨hm, _⟩ <;> omega)
  have gne : w1.heap.size ≠ w.heap.size := by omega
  have fk : w4.frozen? ⟨w1.heap.size, 3, none⟩ = false := bk_free (k4.blk w1.heap.size (.cells #[.slice ra0 (keysV (bysV xs s 16)).a.length rp0, .slice ra1 (keysV (bysV xs s 16)).b.length rp1, .slice ra2 (keysV (bysV xs s 16)).c.length rp2, .slice ra3 (keysV (bysV xs s 16)).d.length rp3] 24) (by simp)) 3
  have y0 : w4.cell? ⟨w1.heap.size, 0, none⟩ = some (.slice ra0 (keysV (bysV xs s 16)).a.length rp0) := by rw [bk_cell (k4.blk w1.heap.size (.cells #[.slice ra0 (keysV (bysV xs s 16)).a.length rp0, .slice ra1 (keysV (bysV xs s 16)).b.length rp1, .slice ra2 (keysV (bysV xs s 16)).c.length rp2, .slice ra3 (keysV (bysV xs s 16)).d.length rp3] 24) (by simp)) 0]; rfl
  have y1 : w4.cell? ⟨w1.heap.size, 1, none⟩ = some (.slice ra1 (keysV (bysV xs s 16)).b.length rp1) := by rw [bk_cell (k4.blk w1.heap.size (.cells #[.slice ra0 (keysV (bysV xs s 16)).a.length rp0, .slice ra1 (keysV (bysV xs s 16)).b.length rp1, .slice ra2 (keysV (bysV xs s 16)).c.length rp2, .slice ra3 (keysV (bysV xs s 16)).d.length rp3] 24) (by simp)) 1]; rfl
  have y2 : w4.cell? ⟨w1.heap.size, 2, none⟩ = some (.slice ra2 (keysV (bysV xs s 16)).c.length rp2) := by rw [bk_cell (k4.blk w1.heap.size (.cells #[.slice ra0 (keysV (bysV xs s 16)).a.length rp0, .slice ra1 (keysV (bysV xs s 16)).b.length rp1, .slice ra2 (keysV (bysV xs s 16)).c.length rp2, .slice ra3 (keysV (bysV xs s 16)).d.length rp3] 24) (by simp)) 2]; rfl
  have y3 : w4.cell? ⟨w1.heap.size, 3, none⟩ = some (.slice ra3 (keysV (bysV xs s 16)).d.length rp3) := by rw [bk_cell (k4.blk w1.heap.size (.cells #[.slice ra0 (keysV (bysV xs s 16)).a.length rp0, .slice ra1 (keysV (bysV xs s 16)).b.length rp1, .slice ra2 (keysV (bysV xs s 16)).c.length rp2, .slice ra3 (keysV (bysV xs s 16)).d.length rp3] 24) (by simp)) 3]; rfl
  have u0 : w4.cell? ⟨w.heap.size, 0, none⟩ = some (.slice none 0 0) := by rw [bk_cell (k4.blk w.heap.size (.cells #[.slice none 0 0, .slice none 0 0, .slice none 0 0, .slice none 0 0] 24) (by simp)) 0]; rfl
  have f0 : w4.frozen? ⟨w.heap.size, 0, none⟩ = false := bk_free (k4.blk w.heap.size (.cells #[.slice none 0 0, .slice none 0 0, .slice none 0 0, .slice none 0 0] 24) (by simp)) 0
  have u1 : w4.cell? ⟨w.heap.size, 1, none⟩ = some (.slice none 0 0) := by rw [bk_cell (k4.blk w.heap.size (.cells #[.slice none 0 0, .slice none 0 0, .slice none 0 0, .slice none 0 0] 24) (by simp)) 1]; rfl
  have f1 : w4.frozen? ⟨w.heap.size, 1, none⟩ = false := bk_free (k4.blk w.heap.size (.cells #[.slice none 0 0, .slice none 0 0, .slice none 0 0, .slice none 0 0] 24) (by simp)) 1
  have u2 : w4.cell? ⟨w.heap.size, 2, none⟩ = some (.slice none 0 0) := by rw [bk_cell (k4.blk w.heap.size (.cells #[.slice none 0 0, .slice none 0 0, .slice none 0 0, .slice none 0 0] 24) (by simp)) 2]; rfl
  have f2 : w4.frozen? ⟨w.heap.size, 2, none⟩ = false := bk_free (k4.blk w.heap.size (.cells #[.slice none 0 0, .slice none 0 0, .slice none 0 0, .slice none 0 0] 24) (by simp)) 2
  have u3 : w4.cell? ⟨w.heap.size, 3, none⟩ = some (.slice none 0 0) := by rw [bk_cell (k4.blk w.heap.size (.cells #[.slice none 0 0, .slice none 0 0, .slice none 0 0, .slice none 0 0] 24) (by simp)) 3]; rfl
  have f3 : w4.frozen? ⟨w.heap.size, 3, none⟩ = false := bk_free (k4.blk w.heap.size (.cells #[.slice none 0 0, .slice none 0 0, .slice none 0 0, .slice none 0 0] 24) (by simp)) 3
  have H4 : Hid _ := And.intro (And.intro (H3.out.1.grown g4 (by omega)) (owns_mono oq (base' := w.heap.size + 1) (by omega))) (And.intro d4 (And.intro (grown_trans H3.out.2.2.1 g4) (k4.blk w.heap.size (.cells #[.slice none 0 0, .slice none 0 0, .slice none 0 0, .slice none 0 0] 24) (by simp))))
  have oq3 : Hid _ := And.intro oq True.intro
  clear oq d4 g4 k4
  go_wp2
  try simp only [Exit.inBlock, Exit.then]
  refine bodyPost_ret (v := .agg #[.slice ra0 (keysV (bysV xs s 16)).a.length rp0, .slice ra1 (keysV (bysV xs s 16)).b.length rp1, .slice ra2 (keysV (bysV xs s 16)).c.length rp2, .slice qa qn qp]) ?_ rfl ?_
  · refine results_cell_row (t := 24) rfl _ _ w.heap.size _ (fr := (0, 0)) _ rfl ?_ Try.underlying24 rfl infoKeys4
    rw [bk_set (bk_set (bk_set (bk_set ((bk_other (g := w1.heap.size) (by omega) 3 _).trans H4.out.2.2.2) 0 _) 1 _) 2 _) 3 _]
    rfl
  · refine ⟨_, rfl, ?_, ?_, ?_⟩
    · rw [E1.out.1]
      obtain ⟨c0, c1, c2, c3, ec, qq⟩ := kowns_off (i := 3) (u := .slice qa qn qp) H4.out.1.1 UB.out
      cases ec
      have oq' := owns_off (i := 3) (u := .slice qa qn qp) (b := w1.heap.size) oq3.out.1 (by omega)
      exact KRow.set4 ⟨w.heap.size + 1, Nat.lt_succ_self _, _, _, _, _, rfl, qq.o0, qq.o1, qq.o2, by show World.ownsRow _ _ _ _ _ (bysV _ _ _).length _; rw [bysV_length]; exact owns_mono oq' (by omega)⟩
    · exact drw_set (drw_set (drw_set (drw_set (drw_set H4.out.2.1 (by omega) (low_mono HB.out.1 (by omega))) (by omega) HB.out.1) (by omega) HB.out.1) (by omega) HB.out.1) (by omega) HB.out.1
    · exact grown_set (grown_set (grown_set (grown_set (grown_set H4.out.2.2.1 (by omega)) (Nat.le_refl _)) (Nat.le_refl _)) (Nat.le_refl _)) (Nat.le_refl _)
end Go.Proofs.Ytoebogcglcaikaa

namespace Go.Proofs.Ytoebogcglcaikaa
open Go.RowKit
set_option linter.unusedVariables false

theorem derV_len8 (ss : List Int) (h : ss.length = 16) : (derV ss lIv 8).length = 8 := by
  unfold derV
  rw [if_pos ⟨h, by decide, by decide, by decide⟩, drvV_length _ _ _ (by decide)]
  rfl
theorem cap_ge {w : World} {base g cap n : Nat} {xs : List Value} (h : w.ownsRow base 5 1 (.slice (some ⟨g, 0, none⟩) n cap) n xs) : n ≤ cap := by
  rcases h.2 with ⟨e, _⟩ | ⟨g', cap', cur, e, _, _, h1, _⟩
  · cases e
  · cases e; exact h1
theorem cut_own {w : World} {base g cap n m : Nat} {xs : List Int} (h : w.ownsRow base 5 1 (.slice (some ⟨g, 0, none⟩) n cap) n (xs.map (Value.int .u8))) (hm : m ≤ n) : w.ownsRow base 5 1 (.slice (some ⟨g, 0, none⟩) m cap) m ((xs.take m).map (Value.int .u8)) := by
  have hl : xs.length = n := by simpa using h.1
  refine ⟨by simp; omega, ?_⟩
  rcases h.2 with ⟨e, _⟩ | ⟨g', cap', cur, e, hb, hg, h1, h2, h3, h4⟩
  · cases e
  · cases e
    refine .inr ⟨g, cap, cur, rfl, hb, hg, by omega, h2, h3, ?_⟩
    have : cur.toList.take (m * 1) = (cur.toList.take (n * 1)).take (m * 1) := by rw [List.take_take]; congr 1; omega
    rw [this, h4, List.map_take]
    simp
set_option maxRecDepth 20000 in
set_option maxHeartbeats 2000000 in
theorem bad_sec (g : Nat) (c : Value) (xs : List Int) (s : St) (w : World) (h : Drw w g c xs s) (hlow : Low w.heap.size c) (hp : s.pos ≤ 1099511400000) (hT : bkT xs s = 0) :
    Calls Try.prog 31 #[.pointer (some ⟨g, 0, none⟩)] w fun e w' => ∃ r, e = .returned r ∧ KRow w' r (bkV xs s) ∧ Drw w' g c xs (bkS xs s) ∧ w.grownBy w' (some g) := by
  have hgl := drw_lt h
  have A := keysC g c xs s (w.alloc (.cells #[.slice none 0 0, .slice none 0 0, .slice none 0 0, .slice none 0 0] 24)) (drw_alloc h _) (low_mono hlow (by simp)) (by omega)
  have hps := bysS_pos xs s 16
  have NX := fun (wx : World) hd => nextC g c xs 12 (bysS xs s 16) wx hd (by omega) (by decide) (by decide)
  have hz := nextS_pos xs 12 (bysS xs s 16)
  have HB : Hid _ := And.intro hlow (And.intro ((Book.nil w).add (.cells #[.slice none 0 0, .slice none 0 0, .slice none 0 0, .slice none 0 0] 24)) h.bytes)
  have eT : nextV xs 12 (bysS xs s 16) = bkT xs s := rfl
  have eZ : nextS xs 12 (bysS xs s 16) = bkZ xs s := rfl
  rw [eT, eZ] at NX
  rw [eZ] at hz
  obtain ⟨qn, eq⟩ := Int.eq_ofNat_of_zero_le (nextV_bd xs 16 (bkZ xs s) (by decide)).1
  have qb := (nextV_bd xs 16 (bkZ xs s) (by decide)).2
  have e1 : bkV xs s = ⟨(keysV (bysV xs s 16)).a.take qn, (keysV (bysV xs s 16)).b, (keysV (bysV xs s 16)).c, (keysV (bysV xs s 16)).d⟩ := by unfold bkV; rw [if_pos hT, eq]; rfl
  have e2 : bkS xs s = nextS xs 16 (bkZ xs s) := by unfold bkS; rw [if_pos hT]
  rw [e2]
  have lf : (keysV (bysV xs s 16)).a.length = 16 := by unfold keysV; rw [if_pos (bysV_length xs s 16)]; exact bysV_length xs s 16
  have E1 : Hid _ := And.intro e1 lf
  rw [hT] at NX
  have NQ := fun (wx : World) hd => nextC g c xs 16 (bkZ xs s) wx hd (by omega) (by decide) (by decide)
  rw [eq] at NQ qb
  have HY : Hid _ := And.intro NQ True.intro
  clear e1 e2 eq NQ lf
  have HN : Hid _ := And.intro NX True.intro
  clear h hlow eZ NX
  go_enter Try.func31, Try.ntmps31
  go_wp2_with fail
  go_at_call 43
  refine A.mono ?_
  rintro e w1 ⟨r1, rfl, o1, d1, g1⟩
  rw [World.size_alloc] at o1
  obtain ⟨ra0, ra1, ra2, ra3, rp0, rp1, rp2, rp3, er⟩ := KOwns.parts o1
  subst er
  have osh : w1.ownsRow (w.heap.size + 1) 5 1 (.slice ra0 (keysV (bysV xs s 16)).a.length rp0) (keysV (bysV xs s 16)).a.length ((keysV (bysV xs s 16)).a.map (Value.int .u8)) := by obtain ⟨c0, c1, c2, c3, ec, qq⟩ := id o1; cases ec; exact qq.o0
  obtain ⟨ga, ca, eg, _, _⟩ := owns_shape osh (by rw [E1.out.2]; decide)
  simp only [Value.slice.injEq] at eg
  obtain ⟨egA, _, egC⟩ := eg
  subst egA egC
  have hcap : 16 ≤ rp0 := by have h1 := cap_ge osh; rw [E1.out.2] at h1; exact h1
  have hqc : (qn : Int) ≤ (rp0 : Int) := by omega
  clear osh
  have z1 : w.heap.size + 1 ≤ w1.heap.size := by have := g1.size; simpa using this
  have k1 := (HB.out.2.1.step g1 (fun b o hm => by simp at hm; have := hm.1; omega)).add (.cells #[.slice (some ⟨ga, 0, none⟩) (keysV (bysV xs s 16)).a.length rp0, .slice ra1 (keysV (bysV xs s 16)).b.length rp1, .slice ra2 (keysV (bysV xs s 16)).c.length rp2, .slice ra3 (keysV (bysV xs s 16)).d.length rp3] 24)
  have al : Below w1.heap.size w1 (w1.alloc (.cells #[.slice (some ⟨ga, 0, none⟩) (keysV (bysV xs s 16)).a.length rp0, .slice ra1 (keysV (bysV xs s 16)).b.length rp1, .slice ra2 (keysV (bysV xs s 16)).c.length rp2, .slice ra3 (keysV (bysV xs s 16)).d.length rp3] 24)) := (Below.refl _ _).alloc (Nat.le_refl _) _
  have UB : Hid (∀ g, KBlk (.agg #[.slice (some ⟨ga, 0, none⟩) (keysV (bysV xs s 16)).a.length rp0, .slice ra1 (keysV (bysV xs s 16)).b.length rp1, .slice ra2 (keysV (bysV xs s 16)).c.length rp2, .slice ra3 (keysV (bysV xs s 16)).d.length rp3]) g → g < w1.heap.size) := fun g hg => (KOwns.blk o1 g hg).2
  have H1 : Hid _ := And.intro (o1.below al) (And.intro (d1.below al) (And.intro (grown_trans (grown_trans (World.grownBy_alloc w _ (some g)) g1) (grown_of_below al _)) k1))
  clear o1 d1 g1 k1 al A
  go_wp2_with fail
  go_at_call 34
  refine (HN.out.1 _ H1.out.2.1).mono ?_
  rintro e w2 ⟨rfl, d2, g2⟩
  have z2 : w1.heap.size + 1 ≤ w2.heap.size := by have := g2.size; simpa using this
  have k2 := H1.out.2.2.2.step g2 (fun b o hm => by simp at hm; rcases hm with ⟨hm, _⟩ | ⟨hm, _⟩ <;> omega)
  have H2 : Hid _ := And.intro (H1.out.1.grown g2 (by omega)) (And.intro d2 (And.intro (grown_trans H1.out.2.2.1 g2) k2))
  clear d2 g2 k2
  have yd : w2.drew.cell? ⟨w1.heap.size, 0, none⟩ = some (.slice (some ⟨ga, 0, none⟩) (keysV (bysV xs s 16)).a.length rp0) := by rw [bk_cell (w := w2.drew) (H2.out.2.2.2.drew.blk w1.heap.size (.cells #[.slice (some ⟨ga, 0, none⟩) (keysV (bysV xs s 16)).a.length rp0, .slice ra1 (keysV (bysV xs s 16)).b.length rp1, .slice ra2 (keysV (bysV xs s 16)).c.length rp2, .slice ra3 (keysV (bysV xs s 16)).d.length rp3] 24) (by simp)) 0]; rfl
  have D2 : Hid _ := And.intro (H2.out.2.1.below (below_drewN (Below.refl _ _) 1)) H2.out.2.2.2.drew
  go_upto_region 4 with fail
  go_region_with (go_at_call 34; refine (HY.out.1 _ D2.out.1).mono ?_; rintro e w4 ⟨rfl, d4, g4'⟩; have yq : w4.cell? ⟨w1.heap.size, 0, none⟩ = some (.slice (some ⟨ga, 0, none⟩) (keysV (bysV xs s 16)).a.length rp0) := (by rw [bk_cell ((D2.out.2.step g4' (fun b o hm => by simp at hm; rcases hm with ⟨hm, _⟩ | ⟨hm, _⟩ <;> omega)).blk w1.heap.size (.cells #[.slice (some ⟨ga, 0, none⟩) (keysV (bysV xs s 16)).a.length rp0, .slice ra1 (keysV (bysV xs s 16)).b.length rp1, .slice ra2 (keysV (bysV xs s 16)).c.length rp2, .slice ra3 (keysV (bysV xs s 16)).d.length rp3] 24) (by simp)) 0]; rfl); have fq : w4.frozen? ⟨w1.heap.size, 0, none⟩ = false := bk_free ((D2.out.2.step g4' (fun b o hm => by simp at hm; rcases hm with ⟨hm, _⟩ | ⟨hm, _⟩ <;> omega)).blk w1.heap.size (.cells #[.slice (some ⟨ga, 0, none⟩) (keysV (bysV xs s 16)).a.length rp0, .slice ra1 (keysV (bysV xs s 16)).b.length rp1, .slice ra2 (keysV (bysV xs s 16)).c.length rp2, .slice ra3 (keysV (bysV xs s 16)).d.length rp3] 24) (by simp)) 0)
  all_goals
    have g4 : w2.grownBy w4 (some g) := grown_trans (grown_of_below (below_drewN (Below.refl w2.heap.size w2) 1) (some g)) g4'
    have z4 : w2.heap.size ≤ w4.heap.size := g4.size
    have k4 := H2.out.2.2.2.step g4 (fun b o hm => by simp at hm; rcases hm with ⟨hm, _⟩ | ⟨hm, _⟩ <;> omega)
    have gne : w1.heap.size ≠ w.heap.size := by omega
    have y0 : w4.cell? ⟨w1.heap.size, 0, none⟩ = some (.slice (some ⟨ga, 0, none⟩) (keysV (bysV xs s 16)).a.length rp0) := by rw [bk_cell (k4.blk w1.heap.size (.cells #[.slice (some ⟨ga, 0, none⟩) (keysV (bysV xs s 16)).a.length rp0, .slice ra1 (keysV (bysV xs s 16)).b.length rp1, .slice ra2 (keysV (bysV xs s 16)).c.length rp2, .slice ra3 (keysV (bysV xs s 16)).d.length rp3] 24) (by simp)) 0]; rfl
    have y1 : w4.cell? ⟨w1.heap.size, 1, none⟩ = some (.slice ra1 (keysV (bysV xs s 16)).b.length rp1) := by rw [bk_cell (k4.blk w1.heap.size (.cells #[.slice (some ⟨ga, 0, none⟩) (keysV (bysV xs s 16)).a.length rp0, .slice ra1 (keysV (bysV xs s 16)).b.length rp1, .slice ra2 (keysV (bysV xs s 16)).c.length rp2, .slice ra3 (keysV (bysV xs s 16)).d.length rp3] 24) (by simp)) 1]; rfl
    have y2 : w4.cell? ⟨w1.heap.size, 2, none⟩ = some (.slice ra2 (keysV (bysV xs s 16)).c.length rp2) := by rw [bk_cell (k4.blk w1.heap.size (.cells #[.slice (some ⟨ga, 0, none⟩) (keysV (bysV xs s 16)).a.length rp0, .slice ra1 (keysV (bysV xs s 16)).b.length rp1, .slice ra2 (keysV (bysV xs s 16)).c.length rp2, .slice ra3 (keysV (bysV xs s 16)).d.length rp3] 24) (by simp)) 2]; rfl
    have y3 : w4.cell? ⟨w1.heap.size, 3, none⟩ = some (.slice ra3 (keysV (bysV xs s 16)).d.length rp3) := by rw [bk_cell (k4.blk w1.heap.size (.cells #[.slice (some ⟨ga, 0, none⟩) (keysV (bysV xs s 16)).a.length rp0, .slice ra1 (keysV (bysV xs s 16)).b.length rp1, .slice ra2 (keysV (bysV xs s 16)).c.length rp2, .slice ra3 (keysV (bysV xs s 16)).d.length rp3] 24) (by simp)) 3]; rfl
    have u0 : w4.cell? ⟨w.heap.size, 0, none⟩ = some (.slice none 0 0) := by rw [bk_cell (k4.blk w.heap.size (.cells #[.slice none 0 0, .slice none 0 0, .slice none 0 0, .slice none 0 0] 24) (by simp)) 0]; rfl
    have f0 : w4.frozen? ⟨w.heap.size, 0, none⟩ = false := bk_free (k4.blk w.heap.size (.cells #[.slice none 0 0, .slice none 0 0, .slice none 0 0, .slice none 0 0] 24) (by simp)) 0
    have u1 : w4.cell? ⟨w.heap.size, 1, none⟩ = some (.slice none 0 0) := by rw [bk_cell (k4.blk w.heap.size (.cells #[.slice none 0 0, .slice none 0 0, .slice none 0 0, .slice none 0 0] 24) (by simp)) 1]; rfl
    have f1 : w4.frozen? ⟨w.heap.size, 1, none⟩ = false := bk_free (k4.blk w.heap.size (.cells #[.slice none 0 0, .slice none 0 0, .slice none 0 0, .slice none 0 0] 24) (by simp)) 1
    have u2 : w4.cell? ⟨w.heap.size, 2, none⟩ = some (.slice none 0 0) := by rw [bk_cell (k4.blk w.heap.size (.cells #[.slice none 0 0, .slice none 0 0, .slice none 0 0, .slice none 0 0] 24) (by simp)) 2]; rfl
    have f2 : w4.frozen? ⟨w.heap.size, 2, none⟩ = false := bk_free (k4.blk w.heap.size (.cells #[.slice none 0 0, .slice none 0 0, .slice none 0 0, .slice none 0 0] 24) (by simp)) 2
    have u3 : w4.cell? ⟨w.heap.size, 3, none⟩ = some (.slice none 0 0) := by rw [bk_cell (k4.blk w.heap.size (.cells #[.slice none 0 0, .slice none 0 0, .slice none 0 0, .slice none 0 0] 24) (by simp)) 3]; rfl
    have f3 : w4.frozen? ⟨w.heap.size, 3, none⟩ = false := bk_free (k4.blk w.heap.size (.cells #[.slice none 0 0, .slice none 0 0, .slice none 0 0, .slice none 0 0] 24) (by simp)) 3
    have H4 : Hid _ := And.intro (H2.out.1.grown g4 (by omega)) (And.intro d4 (And.intro (grown_trans H2.out.2.2.1 g4) (k4.blk w.heap.size (.cells #[.slice none 0 0, .slice none 0 0, .slice none 0 0, .slice none 0 0] 24) (by simp))))
    clear d4 g4 g4' k4
    go_wp2
    try simp only [Exit.inBlock, Exit.then]
    refine bodyPost_ret (v := .agg #[.slice (some ⟨ga, 0, none⟩) qn rp0, .slice ra1 (keysV (bysV xs s 16)).b.length rp1, .slice ra2 (keysV (bysV xs s 16)).c.length rp2, .slice ra3 (keysV (bysV xs s 16)).d.length rp3]) ?_ rfl ?_
    · refine results_cell_row (t := 24) rfl _ _ w.heap.size _ (fr := (0, 0)) _ rfl ?_ Try.underlying24 rfl infoKeys4
      rw [bk_set (bk_set (bk_set (bk_set ((bk_other (g := w1.heap.size) (by omega) 0 _).trans H4.out.2.2.2) 0 _) 1 _) 2 _) 3 _]
      rfl
    · refine ⟨_, rfl, ?_, ?_, ?_⟩
      · rw [E1.out.1]
        obtain ⟨c0, c1, c2, c3, ec, qq⟩ := kowns_off (i := 0) (u := .slice (some ⟨ga, 0, none⟩) qn rp0) H4.out.1 UB.out
        cases ec
        have oq' := cut_own qq.o0 (m := qn) (by rw [E1.out.2]; omega)
        have lq : ((keysV (bysV xs s 16)).a.take qn).length = qn := by rw [List.length_take, E1.out.2]; omega
        exact KRow.set4 ⟨w.heap.size + 1, Nat.lt_succ_self _, _, _, _, _, rfl, by show World.ownsRow _ _ _ _ _ ((keysV (bysV xs s 16)).a.take qn).length _; rw [lq]; exact oq', qq.o1, qq.o2, qq.o3⟩
      · exact drw_set (drw_set (drw_set (drw_set (drw_set H4.out.2.1 (by omega) (low_mono HB.out.1 (by omega))) (by omega) HB.out.1) (by omega) HB.out.1) (by omega) HB.out.1) (by omega) HB.out.1
      · exact grown_set (grown_set (grown_set (grown_set (grown_set H4.out.2.2.1 (by omega)) (Nat.le_refl _)) (Nat.le_refl _)) (Nat.le_refl _)) (Nat.le_refl _)
set_option maxRecDepth 20000 in
set_option maxHeartbeats 2000000 in
theorem bad_iv (g : Nat) (c : Value) (xs : List Int) (s : St) (w : World) (h : Drw w g c xs s) (hlow : Low w.heap.size c) (hp : s.pos ≤ 1099511400000) (hT : bkT xs s = 2) :
    Calls Try.prog 31 #[.pointer (some ⟨g, 0, none⟩)] w fun e w' => ∃ r, e = .returned r ∧ KRow w' r (bkV xs s) ∧ Drw w' g c xs (bkS xs s) ∧ w.grownBy w' (some g) := by
  have hgl := drw_lt h
  have A := keysC g c xs s (w.alloc (.cells #[.slice none 0 0, .slice none 0 0, .slice none 0 0, .slice none 0 0] 24)) (drw_alloc h _) (low_mono hlow (by simp)) (by omega)
  have hps := bysS_pos xs s 16
  have NX := fun (wx : World) hd => nextC g c xs 12 (bysS xs s 16) wx hd (by omega) (by decide) (by decide)
  have hz := nextS_pos xs 12 (bysS xs s 16)
  have HB : Hid _ := And.intro hlow (And.intro ((Book.nil w).add (.cells #[.slice none 0 0, .slice none 0 0, .slice none 0 0, .slice none 0 0] 24)) h.bytes)
  have eT : nextV xs 12 (bysS xs s 16) = bkT xs s := rfl
  have eZ : nextS xs 12 (bysS xs s 16) = bkZ xs s := rfl
  rw [eT, eZ] at NX
  rw [eZ] at hz
  obtain ⟨qn, eq⟩ := Int.eq_ofNat_of_zero_le (nextV_bd xs 8 (bkZ xs s) (by decide)).1
  have qb := (nextV_bd xs 8 (bkZ xs s) (by decide)).2
  have e1 : bkV xs s = ⟨(keysV (bysV xs s 16)).a, (keysV (bysV xs s 16)).b, (keysV (bysV xs s 16)).c.take qn, (keysV (bysV xs s 16)).d⟩ := by unfold bkV; rw [if_neg (by omega), if_neg (by omega), if_pos hT, eq]; rfl
  have e2 : bkS xs s = nextS xs 8 (bkZ xs s) := by unfold bkS; rw [if_neg (by omega), if_neg (by omega), if_pos hT]
  rw [e2]
  have lf : (keysV (bysV xs s 16)).c.length = 8 := by unfold keysV; rw [if_pos (bysV_length xs s 16)]; exact derV_len8 (bysV xs s 16) (bysV_length xs s 16)
  have E1 : Hid _ := And.intro e1 lf
  rw [hT] at NX
  have NQ := fun (wx : World) hd => nextC g c xs 8 (bkZ xs s) wx hd (by omega) (by decide) (by decide)
  rw [eq] at NQ qb
  have HY : Hid _ := And.intro NQ True.intro
  clear e1 e2 eq NQ lf
  have HN : Hid _ := And.intro NX True.intro
  clear h hlow eZ NX
  go_enter Try.func31, Try.ntmps31
  go_wp2_with fail
  go_at_call 43
  refine A.mono ?_
  rintro e w1 ⟨r1, rfl, o1, d1, g1⟩
  rw [World.size_alloc] at o1
  obtain ⟨ra0, ra1, ra2, ra3, rp0, rp1, rp2, rp3, er⟩ := KOwns.parts o1
  subst er
  have osh : w1.ownsRow (w.heap.size + 1) 5 1 (.slice ra2 (keysV (bysV xs s 16)).c.length rp2) (keysV (bysV xs s 16)).c.length ((keysV (bysV xs s 16)).c.map (Value.int .u8)) := by obtain ⟨c0, c1, c2, c3, ec, qq⟩ := id o1; cases ec; exact qq.o2
  obtain ⟨ga, ca, eg, _, _⟩ := owns_shape osh (by rw [E1.out.2]; decide)
  simp only [Value.slice.injEq] at eg
  obtain ⟨egA, _, egC⟩ := eg
  subst egA egC
  have hcap : 8 ≤ rp2 := by have h1 := cap_ge osh; rw [E1.out.2] at h1; exact h1
  have hqc : (qn : Int) ≤ (rp2 : Int) := by omega
  clear osh
  have z1 : w.heap.size + 1 ≤ w1.heap.size := by have := g1.size; simpa using this
  have k1 := (HB.out.2.1.step g1 (fun b o hm => by simp at hm; have := hm.1; omega)).add (.cells #[.slice ra0 (keysV (bysV xs s 16)).a.length rp0, .slice ra1 (keysV (bysV xs s 16)).b.length rp1, .slice (some ⟨ga, 0, none⟩) (keysV (bysV xs s 16)).c.length rp2, .slice ra3 (keysV (bysV xs s 16)).d.length rp3] 24)
  have al : Below w1.heap.size w1 (w1.alloc (.cells #[.slice ra0 (keysV (bysV xs s 16)).a.length rp0, .slice ra1 (keysV (bysV xs s 16)).b.length rp1, .slice (some ⟨ga, 0, none⟩) (keysV (bysV xs s 16)).c.length rp2, .slice ra3 (keysV (bysV xs s 16)).d.length rp3] 24)) := (Below.refl _ _).alloc (Nat.le_refl _) _
  have UB : Hid (∀ g, KBlk (.agg #[.slice ra0 (keysV (bysV xs s 16)).a.length rp0, .slice ra1 (keysV (bysV xs s 16)).b.length rp1, .slice (some ⟨ga, 0, none⟩) (keysV (bysV xs s 16)).c.length rp2, .slice ra3 (keysV (bysV xs s 16)).d.length rp3]) g → g < w1.heap.size) := fun g hg => (KOwns.blk o1 g hg).2
  have H1 : Hid _ := And.intro (o1.below al) (And.intro (d1.below al) (And.intro (grown_trans (grown_trans (World.grownBy_alloc w _ (some g)) g1) (grown_of_below al _)) k1))
  clear o1 d1 g1 k1 al A
  go_wp2_with fail
  go_at_call 34
  refine (HN.out.1 _ H1.out.2.1).mono ?_
  rintro e w2 ⟨rfl, d2, g2⟩
  have z2 : w1.heap.size + 1 ≤ w2.heap.size := by have := g2.size; simpa using this
  have k2 := H1.out.2.2.2.step g2 (fun b o hm => by simp at hm; rcases hm with ⟨hm, _⟩ | ⟨hm, _⟩ <;> omega)
  have H2 : Hid _ := And.intro (H1.out.1.grown g2 (by omega)) (And.intro d2 (And.intro (grown_trans H1.out.2.2.1 g2) k2))
  clear d2 g2 k2
  have yd : w2.drew.cell? ⟨w1.heap.size, 2, none⟩ = some (.slice (some ⟨ga, 0, none⟩) (keysV (bysV xs s 16)).c.length rp2) := by rw [bk_cell (w := w2.drew) (H2.out.2.2.2.drew.blk w1.heap.size (.cells #[.slice ra0 (keysV (bysV xs s 16)).a.length rp0, .slice ra1 (keysV (bysV xs s 16)).b.length rp1, .slice (some ⟨ga, 0, none⟩) (keysV (bysV xs s 16)).c.length rp2, .slice ra3 (keysV (bysV xs s 16)).d.length rp3] 24) (by simp)) 2]; rfl
  have D2 : Hid _ := And.intro (H2.out.2.1.below (below_drewN (Below.refl _ _) 1)) H2.out.2.2.2.drew
  go_upto_region 8 with fail
  go_region_with (go_at_call 34; refine (HY.out.1 _ D2.out.1).mono ?_; rintro e w4 ⟨rfl, d4, g4'⟩; have yq : w4.cell? ⟨w1.heap.size, 2, none⟩ = some (.slice (some ⟨ga, 0, none⟩) (keysV (bysV xs s 16)).c.length rp2) := (by rw [bk_cell ((D2.out.2.step g4' (fun b o hm => by simp at hm; rcases hm with ⟨hm, _⟩ | ⟨hm, _⟩ <;> omega)).blk w1.heap.size (.cells #[.slice ra0 (keysV (bysV xs s 16)).a.length rp0, .slice ra1 (keysV (bysV xs s 16)).b.length rp1, .slice (some ⟨ga, 0, none⟩) (keysV (bysV xs s 16)).c.length rp2, .slice ra3 (keysV (bysV xs s 16)).d.length rp3] 24) (by simp)) 2]; rfl); have fq : w4.frozen? ⟨w1.heap.size, 2, none⟩ = false := bk_free ((D2.out.2.step g4' (fun b o hm => by simp at hm; rcases hm with ⟨hm, _⟩ | ⟨hm, _⟩ <;> omega)).blk w1.heap.size (.cells #[.slice ra0 (keysV (bysV xs s 16)).a.length rp0, .slice ra1 (keysV (bysV xs s 16)).b.length rp1, .slice (some ⟨ga, 0, none⟩) (keysV (bysV xs s 16)).c.length rp2, .slice ra3 (keysV (bysV xs s 16)).d.length rp3] 24) (by simp)) 2)
  all_goals
    have g4 : w2.grownBy w4 (some g) := grown_trans (grown_of_below (below_drewN (Below.refl w2.heap.size w2) 1) (some g)) g4'
    have z4 : w2.heap.size ≤ w4.heap.size := g4.size
    have k4 := H2.out.2.2.2.step g4 (fun b o hm => by simp at hm; rcases hm with ⟨hm, _⟩ | ⟨hm, _⟩ <;> omega)
    have gne : w1.heap.size ≠ w.heap.size := by omega
    have y0 : w4.cell? ⟨w1.heap.size, 0, none⟩ = some (.slice ra0 (keysV (bysV xs s 16)).a.length rp0) := by rw [bk_cell (k4.blk w1.heap.size (.cells #[.slice ra0 (keysV (bysV xs s 16)).a.length rp0, .slice ra1 (keysV (bysV xs s 16)).b.length rp1, .slice (some ⟨ga, 0, none⟩) (keysV (bysV xs s 16)).c.length rp2, .slice ra3 (keysV (bysV xs s 16)).d.length rp3] 24) (by simp)) 0]; rfl
    have y1 : w4.cell? ⟨w1.heap.size, 1, none⟩ = some (.slice ra1 (keysV (bysV xs s 16)).b.length rp1) := by rw [bk_cell (k4.blk w1.heap.size (.cells #[.slice ra0 (keysV (bysV xs s 16)).a.length rp0, .slice ra1 (keysV (bysV xs s 16)).b.length rp1, .slice (some ⟨ga, 0, none⟩) (keysV (bysV xs s 16)).c.length rp2, .slice ra3 (keysV (bysV xs s 16)).d.length rp3] 24) (by simp)) 1]; rfl
    have y2 : w4.cell? ⟨w1.heap.size, 2, none⟩ = some (.slice (some ⟨ga, 0, none⟩) (keysV (bysV xs s 16)).c.length rp2) := by rw [bk_cell (k4.blk w1.heap.size (.cells #[.slice ra0 (keysV (bysV xs s 16)).a.length rp0, .slice ra1 (keysV (bysV xs s 16)).b.length rp1, .slice (some ⟨ga, 0, none⟩) (keysV (bysV xs s 16)).c.length rp2, .slice ra3 (keysV (bysV xs s 16)).d.length rp3] 24) (by simp)) 2]; rfl
    have y3 : w4.cell? ⟨w1.heap.size, 3, none⟩ = some (.slice ra3 (keysV (bysV xs s 16)).d.length rp3) := by rw [bk_cell (k4.blk w1.heap.size (.cells #[.slice ra0 (keysV (bysV xs s 16)).a.length rp0, .slice ra1 (keysV (bysV xs s 16)).b.length rp1, .slice (some ⟨ga, 0, none⟩) (keysV (bysV xs s 16)).c.length rp2, .slice ra3 (keysV (bysV xs s 16)).d.length rp3] 24) (by simp)) 3]; rfl
    have u0 : w4.cell? ⟨w.heap.size, 0, none⟩ = some (.slice none 0 0) := by rw [bk_cell (k4.blk w.heap.size (.cells #[.slice none 0 0, .slice none 0 0, .slice none 0 0, .slice none 0 0] 24) (by simp)) 0]; rfl
    have f0 : w4.frozen? ⟨w.heap.size, 0, none⟩ = false := bk_free (k4.blk w.heap.size (.cells #[.slice none 0 0, .slice none 0 0, .slice none 0 0, .slice none 0 0] 24) (by simp)) 0
    have u1 : w4.cell? ⟨w.heap.size, 1, none⟩ = some (.slice none 0 0) := by rw [bk_cell (k4.blk w.heap.size (.cells #[.slice none 0 0, .slice none 0 0, .slice none 0 0, .slice none 0 0] 24) (by simp)) 1]; rfl
    have f1 : w4.frozen? ⟨w.heap.size, 1, none⟩ = false := bk_free (k4.blk w.heap.size (.cells #[.slice none 0 0, .slice none 0 0, .slice none 0 0, .slice none 0 0] 24) (by simp)) 1
    have u2 : w4.cell? ⟨w.heap.size, 2, none⟩ = some (.slice none 0 0) := by rw [bk_cell (k4.blk w.heap.size (.cells #[.slice none 0 0, .slice none 0 0, .slice none 0 0, .slice none 0 0] 24) (by simp)) 2]; rfl
    have f2 : w4.frozen? ⟨w.heap.size, 2, none⟩ = false := bk_free (k4.blk w.heap.size (.cells #[.slice none 0 0, .slice none 0 0, .slice none 0 0, .slice none 0 0] 24) (by simp)) 2
    have u3 : w4.cell? ⟨w.heap.size, 3, none⟩ = some (.slice none 0 0) := by rw [bk_cell (k4.blk w.heap.size (.cells #[.slice none 0 0, .slice none 0 0, .slice none 0 0, .slice none 0 0] 24) (by simp)) 3]; rfl
    have f3 : w4.frozen? ⟨w.heap.size, 3, none⟩ = false := bk_free (k4.blk w.heap.size (.cells #[.slice none 0 0, .slice none 0 0, .slice none 0 0, .slice none 0 0] 24) (by simp)) 3
    have H4 : Hid _ := And.intro (H2.out.1.grown g4 (by omega)) (And.intro d4 (And.intro (grown_trans H2.out.2.2.1 g4) (k4.blk w.heap.size (.cells #[.slice none 0 0, .slice none 0 0, .slice none 0 0, .slice none 0 0] 24) (by simp))))
    clear d4 g4 g4' k4
    go_wp2
    try simp only [Exit.inBlock, Exit.then]
    refine bodyPost_ret (v := .agg #[.slice ra0 (keysV (bysV xs s 16)).a.length rp0, .slice ra1 (keysV (bysV xs s 16)).b.length rp1, .slice (some ⟨ga, 0, none⟩) qn rp2, .slice ra3 (keysV (bysV xs s 16)).d.length rp3]) ?_ rfl ?_
    · refine results_cell_row (t := 24) rfl _ _ w.heap.size _ (fr := (0, 0)) _ rfl ?_ Try.underlying24 rfl infoKeys4
      rw [bk_set (bk_set (bk_set (bk_set ((bk_other (g := w1.heap.size) (by omega) 2 _).trans H4.out.2.2.2) 0 _) 1 _) 2 _) 3 _]
      rfl
    · refine ⟨_, rfl, ?_, ?_, ?_⟩
      · rw [E1.out.1]
        obtain ⟨c0, c1, c2, c3, ec, qq⟩ := kowns_off (i := 2) (u := .slice (some ⟨ga, 0, none⟩) qn rp2) H4.out.1 UB.out
        cases ec
        have oq' := cut_own qq.o2 (m := qn) (by rw [E1.out.2]; omega)
        have lq : ((keysV (bysV xs s 16)).c.take qn).length = qn := by rw [List.length_take, E1.out.2]; omega
        exact KRow.set4 ⟨w.heap.size + 1, Nat.lt_succ_self _, _, _, _, _, rfl, qq.o0, qq.o1, by show World.ownsRow _ _ _ _ _ ((keysV (bysV xs s 16)).c.take qn).length _; rw [lq]; exact oq', qq.o3⟩
      · exact drw_set (drw_set (drw_set (drw_set (drw_set H4.out.2.1 (by omega) (low_mono HB.out.1 (by omega))) (by omega) HB.out.1) (by omega) HB.out.1) (by omega) HB.out.1) (by omega) HB.out.1
      · exact grown_set (grown_set (grown_set (grown_set (grown_set H4.out.2.2.1 (by omega)) (Nat.le_refl _)) (Nat.le_refl _)) (Nat.le_refl _)) (Nat.le_refl _)
end Go.Proofs.Ytoebogcglcaikaa

namespace Go.Proofs.Ytoebogcglcaikaa
open Go.RowKit
set_option linter.unusedVariables false

theorem one_rowS (w : World) (x : Int) : Row (w.alloc (.cells #[.int .u8 x] 5)) .u8 (.slice (some ⟨w.heap.size, 0, none⟩) 1 1) [x] := one_row w x
set_option maxRecDepth 20000 in
set_option maxHeartbeats 2000000 in
theorem bad_key (g : Nat) (c : Value) (xs : List Int) (s : St) (w : World) (h : Drw w g c xs s) (hlow : Low w.heap.size c) (hp : s.pos ≤ 1099511400000) (hT : bkT xs s = 1) :
    Calls Try.prog 31 #[.pointer (some ⟨g, 0, none⟩)] w fun e w' => ∃ r, e = .returned r ∧ KRow w' r (bkV xs s) ∧ Drw w' g c xs (bkS xs s) ∧ w.grownBy w' (some g) := by
  have hgl := drw_lt h
  have A := keysC g c xs s (w.alloc (.cells #[.slice none 0 0, .slice none 0 0, .slice none 0 0, .slice none 0 0] 24)) (drw_alloc h _) (low_mono hlow (by simp)) (by omega)
  have hps := bysS_pos xs s 16
  have NX := fun (wx : World) hd => nextC g c xs 12 (bysS xs s 16) wx hd (by omega) (by decide) (by decide)
  have hz := nextS_pos xs 12 (bysS xs s 16)
  have HB : Hid _ := And.intro hlow (And.intro ((Book.nil w).add (.cells #[.slice none 0 0, .slice none 0 0, .slice none 0 0, .slice none 0 0] 24)) h.bytes)
  have eT : nextV xs 12 (bysS xs s 16) = bkT xs s := rfl
  have eZ : nextS xs 12 (bysS xs s 16) = bkZ xs s := rfl
  rw [eT, eZ] at NX
  rw [eZ] at hz
  have e1 : bkV xs s = ⟨(keysV (bysV xs s 16)).a, (keysV (bysV xs s 16)).b ++ [1], (keysV (bysV xs s 16)).c, (keysV (bysV xs s 16)).d⟩ := by unfold bkV; rw [if_neg (by omega), if_pos hT]
  have e2 : bkS xs s = bkZ xs s := by unfold bkS; rw [if_neg (by omega), if_pos hT]
  rw [e2]
  have E1 : Hid _ := And.intro e1 (keysV_small (bysV xs s 16)).2.1
  rw [hT] at NX
  clear e1 e2
  have HN : Hid _ := And.intro NX True.intro
  clear h hlow eZ NX
  go_enter Try.func31, Try.ntmps31
  go_wp2_with fail
  go_at_call 43
  refine A.mono ?_
  rintro e w1 ⟨r1, rfl, o1, d1, g1⟩
  rw [World.size_alloc] at o1
  obtain ⟨ra0, ra1, ra2, ra3, rp0, rp1, rp2, rp3, er⟩ := KOwns.parts o1
  subst er
  have z1 : w.heap.size + 1 ≤ w1.heap.size := by have := g1.size; simpa using this
  have k1 := (HB.out.2.1.step g1 (fun b o hm => by simp at hm; have := hm.1; omega)).add (.cells #[.slice ra0 (keysV (bysV xs s 16)).a.length rp0, .slice ra1 (keysV (bysV xs s 16)).b.length rp1, .slice ra2 (keysV (bysV xs s 16)).c.length rp2, .slice ra3 (keysV (bysV xs s 16)).d.length rp3] 24)
  have al : Below w1.heap.size w1 (w1.alloc (.cells #[.slice ra0 (keysV (bysV xs s 16)).a.length rp0, .slice ra1 (keysV (bysV xs s 16)).b.length rp1, .slice ra2 (keysV (bysV xs s 16)).c.length rp2, .slice ra3 (keysV (bysV xs s 16)).d.length rp3] 24)) := (Below.refl _ _).alloc (Nat.le_refl _) _
  have UB : Hid (∀ g, KBlk (.agg #[.slice ra0 (keysV (bysV xs s 16)).a.length rp0, .slice ra1 (keysV (bysV xs s 16)).b.length rp1, .slice ra2 (keysV (bysV xs s 16)).c.length rp2, .slice ra3 (keysV (bysV xs s 16)).d.length rp3]) g → g < w1.heap.size) := fun g hg => (KOwns.blk o1 g hg).2
  have H1 : Hid _ := And.intro (o1.below al) (And.intro (d1.below al) (And.intro (grown_trans (grown_trans (World.grownBy_alloc w _ (some g)) g1) (grown_of_below al _)) k1))
  clear o1 d1 g1 k1 al A
  go_wp2_with fail
  go_at_call 34
  refine (HN.out.1 _ H1.out.2.1).mono ?_
  rintro e w2 ⟨rfl, d2, g2⟩
  have z2 : w1.heap.size + 1 ≤ w2.heap.size := by have := g2.size; simpa using this
  have k2 := H1.out.2.2.2.step g2 (fun b o hm => by simp at hm; rcases hm with ⟨hm, _⟩ | ⟨hm, _⟩ <;> omega)
  have H2 : Hid _ := And.intro (H1.out.1.grown g2 (by omega)) (And.intro d2 (And.intro (grown_trans H1.out.2.2.1 g2) k2))
  clear d2 g2 k2
  have al2 : Below w2.heap.size w2 (w2.alloc (.cells #[.int .u8 1] 5)) := (Below.refl _ _).alloc (Nat.le_refl _) _
  have H3 : Hid _ := And.intro (H2.out.1.below al2) (And.intro (H2.out.2.1.below al2) (And.intro (grown_trans H2.out.2.2.1 (grown_of_below al2 _)) (H2.out.2.2.2.below al2)))
  have P3 : Hid (∃ q : KOwn (w2.alloc (.cells #[.int .u8 1] 5)) (w.heap.size + 1) (.slice ra0 (keysV (bysV xs s 16)).a.length rp0) (.slice ra1 (keysV (bysV xs s 16)).b.length rp1) (.slice ra2 (keysV (bysV xs s 16)).c.length rp2) (.slice ra3 (keysV (bysV xs s 16)).d.length rp3) (keysV (bysV xs s 16)), True) := by obtain ⟨c0, c1, c2, c3, ec, qq⟩ := id H3.out.1; cases ec; exact ⟨qq, trivial⟩
  clear al2
  have yl : w2.cell? ⟨w1.heap.size, 1, none⟩ = some (.slice ra1 (keysV (bysV xs s 16)).b.length rp1) := by rw [bk_cell (H2.out.2.2.2.blk w1.heap.size (.cells #[.slice ra0 (keysV (bysV xs s 16)).a.length rp0, .slice ra1 (keysV (bysV xs s 16)).b.length rp1, .slice ra2 (keysV (bysV xs s 16)).c.length rp2, .slice ra3 (keysV (bysV xs s 16)).d.length rp3] 24 (0, 0)) (by simp)) 1]; rfl
  go_wp2_with (at_builtin; refine wpList_append_row rfl (.tmp 19) (.tmp 20) rfl (w.heap.size + 1) (.slice ra1 (keysV (bysV xs s 16)).b.length rp1) _ _ rfl P3.out.1.o1 (.slice (some ⟨w2.heap.size, 0, none⟩) 1 1) [1] rfl (one_rowS w2 1) (by have := E1.out.2; simp; omega) (by have := H3.out.2.2.1.size; simp at this ⊢; omega) ?_; intro q5 w5 o5 g5; obtain ⟨qa, qp, eq5⟩ := (row_of_owns o5).form; subst eq5; have k5a : w5.heap[w1.heap.size]? = some (.cells #[.slice ra0 (keysV (bysV xs s 16)).a.length rp0, .slice ra1 (keysV (bysV xs s 16)).b.length rp1, .slice ra2 (keysV (bysV xs s 16)).c.length rp2, .slice ra3 (keysV (bysV xs s 16)).d.length rp3] 24 (0, 0)) := (g5.block w1.heap.size (H3.out.2.2.2.lt (b := w1.heap.size) (o := (.cells #[.slice ra0 (keysV (bysV xs s 16)).a.length rp0, .slice ra1 (keysV (bysV xs s 16)).b.length rp1, .slice ra2 (keysV (bysV xs s 16)).c.length rp2, .slice ra3 (keysV (bysV xs s 16)).d.length rp3] 24 (0, 0))) (by simp)) (fun e => by have := UB.out w1.heap.size ⟨_, _, _, _, rfl, Or.inr (Or.inl e.symm)⟩; omega)).trans (H3.out.2.2.2.blk w1.heap.size (.cells #[.slice ra0 (keysV (bysV xs s 16)).a.length rp0, .slice ra1 (keysV (bysV xs s 16)).b.length rp1, .slice ra2 (keysV (bysV xs s 16)).c.length rp2, .slice ra3 (keysV (bysV xs s 16)).d.length rp3] 24 (0, 0)) (by simp)); have k5b : w5.heap[w.heap.size]? = some (.cells #[.slice none 0 0, .slice none 0 0, .slice none 0 0, .slice none 0 0] 24 (0, 0)) := (g5.block w.heap.size (H3.out.2.2.2.lt (b := w.heap.size) (o := (.cells #[.slice none 0 0, .slice none 0 0, .slice none 0 0, .slice none 0 0] 24 (0, 0))) (by simp)) (fun e => by have := (P3.out.1.o1.lt w.heap.size e.symm).1; omega)).trans (H3.out.2.2.2.blk w.heap.size (.cells #[.slice none 0 0, .slice none 0 0, .slice none 0 0, .slice none 0 0] 24 (0, 0)) (by simp)); have H5 : Hid _ := And.intro o5 (And.intro g5 (And.intro k5a k5b)); have y0 : w5.cell? ⟨w1.heap.size, 0, none⟩ = some (.slice ra0 (keysV (bysV xs s 16)).a.length rp0) := (by rw [bk_cell H5.out.2.2.1 0]; rfl); have y1 : w5.cell? ⟨w1.heap.size, 1, none⟩ = some (.slice ra1 (keysV (bysV xs s 16)).b.length rp1) := (by rw [bk_cell H5.out.2.2.1 1]; rfl); have y2 : w5.cell? ⟨w1.heap.size, 2, none⟩ = some (.slice ra2 (keysV (bysV xs s 16)).c.length rp2) := (by rw [bk_cell H5.out.2.2.1 2]; rfl); have y3 : w5.cell? ⟨w1.heap.size, 3, none⟩ = some (.slice ra3 (keysV (bysV xs s 16)).d.length rp3) := (by rw [bk_cell H5.out.2.2.1 3]; rfl); have fk : w5.frozen? ⟨w1.heap.size, 1, none⟩ = false := bk_free H5.out.2.2.1 1; have u0 : w5.cell? ⟨w.heap.size, 0, none⟩ = some (.slice none 0 0) := (by rw [bk_cell H5.out.2.2.2 0]; rfl); have f0 : w5.frozen? ⟨w.heap.size, 0, none⟩ = false := bk_free H5.out.2.2.2 0; have u1 : w5.cell? ⟨w.heap.size, 1, none⟩ = some (.slice none 0 0) := (by rw [bk_cell H5.out.2.2.2 1]; rfl); have f1 : w5.frozen? ⟨w.heap.size, 1, none⟩ = false := bk_free H5.out.2.2.2 1; have u2 : w5.cell? ⟨w.heap.size, 2, none⟩ = some (.slice none 0 0) := (by rw [bk_cell H5.out.2.2.2 2]; rfl); have f2 : w5.frozen? ⟨w.heap.size, 2, none⟩ = false := bk_free H5.out.2.2.2 2; have u3 : w5.cell? ⟨w.heap.size, 3, none⟩ = some (.slice none 0 0) := (by rw [bk_cell H5.out.2.2.2 3]; rfl); have f3 : w5.frozen? ⟨w.heap.size, 3, none⟩ = false := bk_free H5.out.2.2.2 3; clear o5 g5 k5a k5b)
  try simp only [Exit.inBlock, Exit.then]
  refine bodyPost_ret (v := .agg #[.slice ra0 (keysV (bysV xs s 16)).a.length rp0, .slice qa ((keysV (bysV xs s 16)).b.length + 1) qp, .slice ra2 (keysV (bysV xs s 16)).c.length rp2, .slice ra3 (keysV (bysV xs s 16)).d.length rp3]) ?_ rfl ?_
  · refine results_cell_row (t := 24) rfl _ _ w.heap.size _ (fr := (0, 0)) _ rfl ?_ Try.underlying24 rfl infoKeys4
    rw [bk_set (bk_set (bk_set (bk_set ((bk_other (g := w1.heap.size) (by omega) 1 _).trans H5.out.2.2.2) 0 _) 1 _) 2 _) 3 _]
    rfl
  · have lb : ((keysV (bysV xs s 16)).b ++ [1]).length = (keysV (bysV xs s 16)).b.length + 1 := by simp
    have h6 : w5.ownsRow (w.heap.size + 1) 5 1 (.slice qa ((keysV (bysV xs s 16)).b.length + 1) qp) ((keysV (bysV xs s 16)).b.length + 1) (((keysV (bysV xs s 16)).b ++ [1]).map (Value.int .u8)) := by have h := H5.out.1; rw [lb] at h; exact h
    have nq : ∀ k, (.slice qa ((keysV (bysV xs s 16)).b.length + 1) qp : Value).ownBlock = some k → k ≠ w1.heap.size := fun k hk e => by
      subst e
      rcases h6.2 with ⟨e, _⟩ | ⟨g', cap', cur, e, _, hh, _⟩
      · rw [e] at hk; cases hk
      · rw [e] at hk
        have hg : g' = w1.heap.size := by simpa [Value.ownBlock] using hk
        rw [hg, H5.out.2.2.1] at hh
        have := (Obj.cells.inj (Option.some.inj hh)).2.1
        revert this
        decide
    have kp : ∀ {n : Nat} {v : Value} {ys : List Value}, (w2.alloc (.cells #[.int .u8 1] 5)).ownsRow (w.heap.size + 1) 5 1 v n ys → Apart v (.slice ra1 (keysV (bysV xs s 16)).b.length rp1) → (∀ k, v.ownBlock = some k → k < w1.heap.size) → (w5.setCell ⟨w1.heap.size, 1, none⟩ (.slice qa ((keysV (bysV xs s 16)).b.length + 1) qp)).ownsRow (w.heap.size + 1) 5 1 v n ys := fun {n v ys} ho ha hu => by
      have h1 := ho.kept H5.out.2.1 (by cases hv : v.ownBlock with
        | none => exact Or.inl rfl
        | some k => exact Or.inr (fun e => ha k hv e.symm))
      exact (Only.setCell (w := w5) ⟨w1.heap.size, 1, none⟩ (.slice qa ((keysV (bysV xs s 16)).b.length + 1) qp)).owns h1 (fun k hk e => by have := hu k hk; have := Option.some.inj e; simp only at this; omega)
    have o5' : (w5.setCell ⟨w1.heap.size, 1, none⟩ (.slice qa ((keysV (bysV xs s 16)).b.length + 1) qp)).ownsRow (w.heap.size + 1) 5 1 (.slice qa ((keysV (bysV xs s 16)).b.length + 1) qp) ((keysV (bysV xs s 16)).b ++ [1]).length (((keysV (bysV xs s 16)).b ++ [1]).map (Value.int .u8)) := by
      rw [lb]
      exact (Only.setCell (w := w5) ⟨w1.heap.size, 1, none⟩ (.slice qa ((keysV (bysV xs s 16)).b.length + 1) qp)).owns h6 (fun k hk e => nq k hk (Option.some.inj e))
    refine ⟨_, rfl, ?_, ?_, ?_⟩
    · rw [E1.out.1]
      exact KRow.set4 ⟨w.heap.size + 1, Nat.lt_succ_self _, _, _, _, _, rfl, kp P3.out.1.o0 P3.out.1.a01 (fun k hk => UB.out k ⟨_, _, _, _, rfl, Or.inl hk⟩), o5', kp P3.out.1.o2 P3.out.1.a12.symm (fun k hk => UB.out k ⟨_, _, _, _, rfl, Or.inr (Or.inr (Or.inl hk))⟩), kp P3.out.1.o3 P3.out.1.a13.symm (fun k hk => UB.out k ⟨_, _, _, _, rfl, Or.inr (Or.inr (Or.inr hk))⟩)⟩
    · have d5 := H3.out.2.1.kept H5.out.2.1 (fun e => by have := (P3.out.1.o1.lt g e.symm).1; omega) (fun b off n cap h0 e er => by have h1 := HB.out.1 b off n cap h0 e; have h2 := (P3.out.1.o1.lt b er.symm).1; omega)
      exact drw_set (drw_set (drw_set (drw_set (drw_set d5 (by omega) (low_mono HB.out.1 (by omega))) (by omega) HB.out.1) (by omega) HB.out.1) (by omega) HB.out.1) (by omega) HB.out.1
    · have g5' : w.grownBy w5 (some g) := grown_own H3.out.2.2.1 H5.out.2.1 (fun k hk => by have := (P3.out.1.o1.lt k hk).1; omega)
      exact grown_set (grown_set (grown_set (grown_set (grown_set g5' (by omega)) (Nat.le_refl _)) (Nat.le_refl _)) (Nat.le_refl _)) (Nat.le_refl _)
end Go.Proofs.Ytoebogcglcaikaa

namespace Go.Proofs.Ytoebogcglcaikaa
open Go.RowKit
set_option linter.unusedVariables false

/-- badKeys, whatever is drawn. -/
theorem badC (g : Nat) (c : Value) (xs : List Int) (s : St) (w : World) (h : Drw w g c xs s) (hlow : Low w.heap.size c) (hp : s.pos ≤ 1099511400000) :
    Calls Try.prog 31 #[.pointer (some ⟨g, 0, none⟩)] w fun e w' => ∃ r, e = .returned r ∧ KRow w' r (bkV xs s) ∧ Drw w' g c xs (bkS xs s) ∧ w.grownBy w' (some g) := by
  have hb : 0 ≤ bkT xs s := (nextV_bd xs 12 (bysS xs s 16) (by decide)).1
  by_cases t0 : bkT xs s = 0
  · exact bad_sec g c xs s w h hlow hp t0
  by_cases t1 : bkT xs s = 1
  · exact bad_key g c xs s w h hlow hp t1
  by_cases t2 : bkT xs s = 2
  · exact bad_iv g c xs s w h hlow hp t2
  by_cases t3 : bkT xs s = 3
  · exact bad_mask g c xs s w h hlow hp t3
  · exact bad_none g c xs s w h hlow hp (by omega)
end Go.Proofs.Ytoebogcglcaikaa

namespace Go.Proofs.Ytoebogcglcaikaa
open Go.RowKit
set_option linter.unusedVariables false

/-- A reading of bytes does not lie in the source's own block, so the source's steps leave it. -/
theorem row_drawn {w w' : World} {g : Nat} {c v : Value} {xs ys : List Int} {s : St} (hd : Drw w g c xs s) (h : Row w .u8 v ys) (gr : w.grownBy w' (some g)) : Row w' .u8 v ys := by
  rcases h with h | ⟨b, off, cap, rfl, hb, hcap, hc⟩
  · exact Or.inl h
  · by_cases h0 : 0 < ys.length
    · have hne : b ≠ g := by
        intro e
        subst e
        have h1 := hc 0 h0
        rw [Nat.add_zero] at h1
        have h2 : w.cell? ⟨b, off, none⟩ = (#[c, .int .i64 s.pos, .int .i64 s.seed] : Array Value)[off]? := by simp [World.cell?, hd.blk]
        rw [h2] at h1
        obtain ⟨ao, cp, ec⟩ := hd.row.form
        match off, h1 with
        | 0, h1 => rw [ec] at h1; simp at h1
        | 1, h1 => simp at h1
        | 2, h1 => simp at h1
        | o + 3, h1 => simp at h1
      have hq := gr.block b hb (fun e => hne (Option.some.inj e))
      refine Or.inr ⟨b, off, cap, rfl, Nat.lt_of_lt_of_le hb gr.size, hcap, fun j hj => ?_⟩
      have e : w'.cell? ⟨b, off + j, none⟩ = w.cell? ⟨b, off + j, none⟩ := by simp [World.cell?, hq]
      rw [e]
      exact hc j hj
    · have e : ys = [] := List.eq_nil_of_length_eq_zero (by omega)
      subst e
      exact Or.inl ⟨rfl, _, _, rfl⟩
theorem krow_drawn {w w' : World} {g : Nat} {c v : Value} {xs : List Int} {s : St} {k : K4} (hd : Drw w g c xs s) (h : KRow w v k) (gr : w.grownBy w' (some g)) : KRow w' v k := by
  obtain ⟨v0, v1, v2, v3, e, h0, h1, h2, h3⟩ := h
  exact ⟨v0, v1, v2, v3, e, row_drawn hd h0 gr, row_drawn hd h1 gr, row_drawn hd h2 gr, row_drawn hd h3 gr⟩
theorem bkZ_pos (xs : List Int) (s : St) : s.pos ≤ (bkZ xs s).pos ∧ (bkZ xs s).pos ≤ s.pos + 19 := by
  unfold bkZ
  have h1 := nextS_pos xs 12 (bysS xs s 16)
  rw [bysS_pos] at h1
  omega
theorem bkS_pos (xs : List Int) (s : St) : s.pos ≤ (bkS xs s).pos ∧ (bkS xs s).pos ≤ s.pos + 50 := by
  have hz := bkZ_pos xs s
  unfold bkS
  split
  · have := nextS_pos xs 16 (bkZ xs s); omega
  · split
    · omega
    · split
      · have := nextS_pos xs 8 (bkZ xs s); omega
      · split
        · rw [bysS_pos]
          have h1 := nextS_pos xs 20 (bkZ xs s)
          have h2 := nextV_bd xs 20 (bkZ xs s) (by decide)
          omega
        · omega
/-- What l03DrawSeal draws. -/
def dsS0 (xs : List Int) : St := ⟨0, (xs.length : Int) % 1000⟩
def dsS1 (xs : List Int) : St := bkS xs (dsS0 xs)
def dsS2 (xs : List Int) : St := numS xs (dsS1 xs)
def dsN1 (xs : List Int) : Nat := (nextV xs 30 (dsS2 xs)).toNat
def dsS3 (xs : List Int) : St := nextS xs 30 (dsS2 xs)
def dsS4 (xs : List Int) : St := bysS xs (dsS3 xs) (dsN1 xs)
def dsN2 (xs : List Int) : Nat := (nextV xs (szV xs 200 + 1) (dsS4 xs)).toNat
def dsS5 (xs : List Int) : St := nextS xs (szV xs 200 + 1) (dsS4 xs)
def dsS6 (xs : List Int) : St := bysS xs (dsS5 xs) (dsN2 xs)
def dsS7 (xs : List Int) : St := nextS xs 20 (dsS6 xs)
def dsNum (xs : List Int) : Int := numV xs (dsS1 xs)
def dsHead (xs : List Int) : List Int := bysV xs (dsS3 xs) (dsN1 xs)
def dsBig (xs : List Int) : Nat := (1500 - (dsN1 xs : Int) + nextV xs 2 (dsS7 xs)).toNat
def dsBody (xs : List Int) : List Int := if nextV xs 20 (dsS6 xs) = 19 then List.replicate (dsBig xs) 0 else bysV xs (dsS5 xs) (dsN2 xs)
theorem ds_bounds (xs : List Int) (h : xs.length ≤ 1048576) : dsN1 xs < 30 ∧ dsN2 xs ≤ 200 ∧ 0 ≤ szV xs 200 ∧ szV xs 200 ≤ 200 ∧ (dsS1 xs).pos ≤ 50 ∧ (dsS2 xs).pos ≤ 59 ∧ (dsS3 xs).pos ≤ 62 ∧ (dsS4 xs).pos ≤ 92 ∧ (dsS5 xs).pos ≤ 95 ∧ (dsS6 xs).pos ≤ 295 ∧ (dsS7 xs).pos ≤ 298 := by
  have z0 : (dsS0 xs).pos = 0 := rfl
  have hsz : 0 ≤ szV xs 200 ∧ szV xs 200 ≤ 200 := by unfold szV; split <;> omega
  have a1 := bkS_pos xs (dsS0 xs)
  have a2 := numS_pos xs (dsS1 xs)
  have a3 := nextS_pos xs 30 (dsS2 xs)
  have n1 := nextV_bd xs 30 (dsS2 xs) (by decide)
  have a4 : (dsS4 xs).pos = (dsS3 xs).pos + (dsN1 xs : Int) := bysS_pos _ _ _
  have a5 := nextS_pos xs (szV xs 200 + 1) (dsS4 xs)
  have n2 := nextV_bd xs (szV xs 200 + 1) (dsS4 xs) (by omega)
  have a6 : (dsS6 xs).pos = (dsS5 xs).pos + (dsN2 xs : Int) := bysS_pos _ _ _
  have a7 := nextS_pos xs 20 (dsS6 xs)
  have e1 : dsS1 xs = bkS xs (dsS0 xs) := rfl
  have e2 : dsS2 xs = numS xs (dsS1 xs) := rfl
  have e3 : dsS3 xs = nextS xs 30 (dsS2 xs) := rfl
  have e5 : dsS5 xs = nextS xs (szV xs 200 + 1) (dsS4 xs) := rfl
  have e7 : dsS7 xs = nextS xs 20 (dsS6 xs) := rfl
  have m1 : dsN1 xs = (nextV xs 30 (dsS2 xs)).toNat := rfl
  have m2 : dsN2 xs = (nextV xs (szV xs 200 + 1) (dsS4 xs)).toNat := rfl
  rw [← e1] at a1
  rw [← e2] at a2
  rw [← e3] at a3
  rw [← e5] at a5
  rw [← e7] at a7
  omega
end Go.Proofs.Ytoebogcglcaikaa

namespace Go.Proofs.Ytoebogcglcaikaa
open Go.RowKit
set_option linter.unusedVariables false

theorem results_row_tmp3 {P : Program} {fn : Func} {p q r t' : Tmp} {ty : TypeId} (h : fn.results = #[.cell p ty, .tmp q, .tmp r, .tmp t']) (tmps : Array Value) (w : World) (g : Nat) (t : TypeId) (cs : Array Value) (fr : Nat × Nat) (d : TypeDesc) (u v x : Value)
    (hp : tmps.getD p undef = .pointer (some ⟨g, 0, none⟩)) (hq : tmps.getD q undef = u) (hr : tmps.getD r undef = v) (ht : tmps.getD t' undef = x) (hg : w.heap[g]? = some (.cells cs t fr))
    (hu : P.underlying ty = some d) (hd : (match d with | .struct _ | .array _ _ => true | _ => false) = true) (hi : (P.info? ty).map (·.size) = some cs.size) :
    (results fn tmps).run P w = .ok (.tuple #[.agg cs, u, v, x]) w := by
  have hp' : tmps[p]?.getD undef = .pointer (some ⟨g, 0, none⟩) := by simpa using hp
  have hq' : tmps[q]?.getD undef = u := by simpa using hq
  have hr' : tmps[r]?.getD undef = v := by simpa using hr
  have ht' : tmps[t']?.getD undef = x := by simpa using ht
  simp [results, h, hp', hq', hr', ht', asAddr, run_loadVar_row w g t ty cs fr d hg hu hd hi]
/-- A reading of bytes does not lie in a block that holds no byte. -/
theorem row_other {W W' : World} {b0 : Nat} {v : Value} {ys : List Int} (h : Row W .u8 v ys) (hcs : ∀ off x, W.cell? ⟨b0, off, none⟩ ≠ some (.int .u8 x)) (ho : Only (some b0) W W') : Row W' .u8 v ys := by
  rcases h with h | ⟨b, off, cap, rfl, hb, hcap, hc⟩
  · exact Or.inl h
  · by_cases h0 : 0 < ys.length
    · have hne : b ≠ b0 := by
        intro e
        subst e
        have h1 := hc 0 h0
        rw [Nat.add_zero] at h1
        exact hcs off _ h1
      have hq := ho.block b (fun e => hne (Option.some.inj e))
      refine Or.inr ⟨b, off, cap, rfl, by rw [ho.size]; exact hb, hcap, fun j hj => ?_⟩
      have e : W'.cell? ⟨b, off + j, none⟩ = W.cell? ⟨b, off + j, none⟩ := by simp [World.cell?, hq]
      rw [e]
      exact hc j hj
    · have e : ys = [] := List.eq_nil_of_length_eq_zero (by omega)
      subst e
      exact Or.inl ⟨rfl, _, _, rfl⟩
theorem only4 (W : World) (b : Nat) (u0 u1 u2 u3 : Value) : Only (some b) W ((((W.setCell ⟨b, 0, none⟩ u0).setCell ⟨b, 1, none⟩ u1).setCell ⟨b, 2, none⟩ u2).setCell ⟨b, 3, none⟩ u3) :=
  (((Only.setCell (w := W) ⟨b, 0, none⟩ u0).trans (Only.setCell ⟨b, 1, none⟩ u1)).trans (Only.setCell ⟨b, 2, none⟩ u2)).trans (Only.setCell ⟨b, 3, none⟩ u3)
theorem set4_heap {W : World} {b : Nat} {u0 u1 u2 u3 c0 c1 c2 c3 : Value} {t : TypeId} (h : W.heap[b]? = some (.cells #[c0, c1, c2, c3] t (0, 0))) : ((((W.setCell ⟨b, 0, none⟩ u0).setCell ⟨b, 1, none⟩ u1).setCell ⟨b, 2, none⟩ u2).setCell ⟨b, 3, none⟩ u3).heap[b]? = some (.cells #[u0, u1, u2, u3] t (0, 0)) :=
  (bk_set (bk_set (bk_set (bk_set h 0 u0) 1 u1) 2 u2) 3 u3).trans (congrArg (fun x => some (Obj.cells x t (0, 0))) (by simp))
theorem nocell {W : World} {b : Nat} {c0 c1 c2 c3 : Option Addr} {n0 n1 n2 n3 p0 p1 p2 p3 : Nat} {t : TypeId} (h : W.heap[b]? = some (.cells #[.slice c0 n0 p0, .slice c1 n1 p1, .slice c2 n2 p2, .slice c3 n3 p3] t (0, 0))) (off : Nat) (x : Int) : W.cell? ⟨b, off, none⟩ ≠ some (.int .u8 x) := by
  rw [bk_cell h off]
  match off with
  | 0 => simp
  | 1 => simp
  | 2 => simp
  | 3 => simp
  | o + 4 => simp
theorem infoKy : (Try.prog.info? 24).map (·.size) = some 4 := by kernel_rfl
/-- What stands while l03DrawSeal runs: the source, the answer's room, the keys. -/
structure DsAt (w W : World) (c : Value) (xs : List Int) (s : St) (gk : Nat) (a0 a1 a2 a3 : Option Addr) (p0 p1 p2 p3 : Nat) : Prop where
  drw : Drw W (w.heap.size + 1) c xs s
  low : Low W.heap.size c
  bel : Below w.heap.size w W
  res : W.heap[w.heap.size]? = some (.cells #[.slice none 0 0, .slice none 0 0, .slice none 0 0, .slice none 0 0] 24 (0, 0))
  key : W.heap[gk]? = some (.cells #[.slice a0 (bkV xs (dsS0 xs)).a.length p0, .slice a1 (bkV xs (dsS0 xs)).b.length p1, .slice a2 (bkV xs (dsS0 xs)).c.length p2, .slice a3 (bkV xs (dsS0 xs)).d.length p3] 24 (0, 0))
  row : KRow W (.agg #[.slice a0 (bkV xs (dsS0 xs)).a.length p0, .slice a1 (bkV xs (dsS0 xs)).b.length p1, .slice a2 (bkV xs (dsS0 xs)).c.length p2, .slice a3 (bkV xs (dsS0 xs)).d.length p3]) (bkV xs (dsS0 xs))
  gk1 : w.heap.size + 1 < gk
theorem DsAt.step {w W W' : World} {c : Value} {xs : List Int} {s s' : St} {gk : Nat} {a0 a1 a2 a3 : Option Addr} {p0 p1 p2 p3 : Nat} (h : DsAt w W c xs s gk a0 a1 a2 a3 p0 p1 p2 p3) (hd : Drw W' (w.heap.size + 1) c xs s') (gr : W.grownBy W' (some (w.heap.size + 1))) : DsAt w W' c xs s' gk a0 a1 a2 a3 p0 p1 p2 p3 :=
  ⟨hd, low_mono h.low gr.size, h.bel.grown gr h.bel.size (fun q hq => by have := Option.some.inj hq; omega), (gr.block _ (Array.getElem?_eq_some_iff.1 h.res).1 (fun e => by have := Option.some.inj e; omega)).trans h.res, (gr.block _ (Array.getElem?_eq_some_iff.1 h.key).1 (fun e => by have := Option.some.inj e; have := h.gk1; omega)).trans h.key, krow_drawn h.drw h.row gr, h.gk1⟩
end Go.Proofs.Ytoebogcglcaikaa

namespace Go.Proofs.Ytoebogcglcaikaa
open Go.RowKit
set_option linter.unusedVariables false

theorem owns_drawn {w w' : World} {g base n : Nat} {v : Value} {xs : List Value} (h : w.ownsRow base 5 1 v n xs) (hg : g < base) (gr : w.grownBy w' (some g)) : w'.ownsRow base 5 1 v n xs := by
  obtain ⟨hl, h2⟩ := h
  refine ⟨hl, ?_⟩
  rcases h2 with h2 | ⟨q, cap, cur, rfl, hb, hq, r⟩
  · exact Or.inl h2
  · exact Or.inr ⟨q, cap, cur, rfl, hb, (gr.block q (Array.getElem?_eq_some_iff.1 hq).1 (fun e => by have := Option.some.inj e; omega)).trans hq, r⟩
set_option maxRecDepth 20000 in
set_option maxHeartbeats 8000000 in
theorem drawSealC (v : Value) (xs : List Int) (w : World) (hrow : Row w .u8 v xs) (hB : Bytes xs) (hl : xs.length ≤ 1048576) :
    Calls Try.prog 13 #[v] w fun e w' => ∃ vk vh vb, e = .returned (.tuple #[vk, .int .i64 (dsNum xs), vh, vb]) ∧ KRow w' vk (bkV xs (dsS0 xs)) ∧ Row w' .u8 vh (dsHead xs) ∧ Row w' .u8 vb (dsBody xs) ∧ Below w.heap.size w w' := by
  obtain ⟨hn1, hn2, hz0, hz1, q1, q2, q3, q4, q5, q6, q7⟩ := ds_bounds xs hl
  have A0 : Below w.heap.size w (w.alloc (.cells #[.slice none 0 0, .slice none 0 0, .slice none 0 0, .slice none 0 0] 24)) := (Below.refl _ _).alloc (Nat.le_refl _) _
  have r0 := hrow.below A0
  have S0 := sourceC v xs _ r0 hB hl
  have D0 := drw_new r0 hB hl
  have z1 : (w.alloc (.cells #[.slice none 0 0, .slice none 0 0, .slice none 0 0, .slice none 0 0] 24)).heap.size = w.heap.size + 1 := by simp
  rw [z1] at S0 D0
  have L0 : Low (w.heap.size + 2) v := fun b off n cap h0 e => by
    rcases hrow with ⟨rfl, ao, cap', e'⟩ | ⟨b', off', cap', e', hb, _⟩
    · rw [e] at e'; cases e'; omega
    · rw [e] at e'; cases e'; omega
  obtain ⟨ao, cp, ev⟩ := hrow.form
  have BD : Hid _ := And.intro hn1 (And.intro hn2 (And.intro hz0 (And.intro hz1 (And.intro q1 (And.intro q2 (And.intro q3 (And.intro q4 (And.intro q5 (And.intro q6 q7)))))))))
  have H0 : Hid _ := And.intro S0 (And.intro D0 (And.intro L0 (And.intro A0 hB)))
  clear hn1 hn2 hz0 hz1 q1 q2 q3 q4 q5 q6 q7 r0 S0 D0 L0 A0 z1 hrow hB hl ev
  go_enter Try.func13, Try.ntmps13
  go_wp2_with fail
  go_at_call 30
  refine H0.out.1.mono ?_
  rintro e w1 ⟨rfl, hw1⟩
  have D1 : Drw w1 (w.heap.size + 1) v xs (dsS0 xs) := by rw [hw1]; exact H0.out.2.1
  have s1 : w1.heap.size = w.heap.size + 2 := by rw [hw1]; simp
  have B1 : Below w.heap.size w w1 := by rw [hw1]; exact H0.out.2.2.2.1.alloc H0.out.2.2.2.1.size _
  have R1 : w1.heap[w.heap.size]? = some (.cells #[.slice none 0 0, .slice none 0 0, .slice none 0 0, .slice none 0 0] 24 (0, 0)) := by
    rw [hw1, Below.heap_alloc _ _ _ (by simp)]; exact heap_alloc_new w _
  have C1 := badC (w.heap.size + 1) v xs (dsS0 xs) w1 D1 (by rw [s1]; exact H0.out.2.2.1) (by show (0 : Int) ≤ _; decide)
  have H1 : Hid _ := And.intro C1 (And.intro B1 (And.intro R1 (And.intro s1 D1)))
  clear hw1 D1 s1 B1 R1 C1
  go_wp2_with fail
  go_at_call 31
  refine H1.out.1.mono ?_
  rintro e w2 ⟨rk, rfl, k2, d2, g2⟩
  obtain ⟨u0, u1, u2, u3, rfl, k0, k1, k2', k3⟩ := id k2
  obtain ⟨a0, p0, f0⟩ := k0.form
  obtain ⟨a1, p1, f1⟩ := k1.form
  obtain ⟨a2, p2, f2⟩ := k2'.form
  obtain ⟨a3, p3, f3⟩ := k3.form
  subst f0 f1 f2 f3
  obtain ⟨gk, eg⟩ : ∃ gk, gk = w2.heap.size := ⟨_, rfl⟩
  have z2 : w.heap.size + 2 ≤ w2.heap.size := by have := g2.size; have := H1.out.2.2.2.1; omega
  have AT : DsAt w (w2.alloc (.cells #[.slice a0 (bkV xs (dsS0 xs)).a.length p0, .slice a1 (bkV xs (dsS0 xs)).b.length p1, .slice a2 (bkV xs (dsS0 xs)).c.length p2, .slice a3 (bkV xs (dsS0 xs)).d.length p3] 24)) v xs (dsS1 xs) w2.heap.size a0 a1 a2 a3 p0 p1 p2 p3 := by
    have bB : Below w.heap.size w w2 := H1.out.2.1.grown g2 H1.out.2.1.size (fun q hq => by have := Option.some.inj hq; omega)
    have bA : Below w2.heap.size w2 (w2.alloc (.cells #[.slice a0 (bkV xs (dsS0 xs)).a.length p0, .slice a1 (bkV xs (dsS0 xs)).b.length p1, .slice a2 (bkV xs (dsS0 xs)).c.length p2, .slice a3 (bkV xs (dsS0 xs)).d.length p3] 24)) := (Below.refl _ _).alloc (Nat.le_refl _) _
    refine ⟨drw_alloc d2 _, low_mono H0.out.2.2.1 (by simp; omega), bB.trans (bA.mono bB.size), ?_, heap_alloc_new w2 _, k2.below bA, by omega⟩
    rw [Below.heap_alloc _ _ _ (by omega), g2.block _ (by have := H1.out.2.2.2.1; omega) (fun e => by have := Option.some.inj e; omega)]
    exact H1.out.2.2.1
  have H2 : Hid _ := And.intro AT True.intro
  clear k2 d2 g2 k0 k1 k2' k3 AT z2 eg
  go_wp2_with fail
  generalize w2.alloc (.cells #[.slice a0 (bkV xs (dsS0 xs)).a.length p0, .slice a1 (bkV xs (dsS0 xs)).b.length p1, .slice a2 (bkV xs (dsS0 xs)).c.length p2, .slice a3 (bkV xs (dsS0 xs)).d.length p3] 24) = W2 at H2 ⊢
  go_at_call 32
  refine (numberC (w.heap.size + 1) v xs (dsS1 xs) W2 H2.out.1.drw (by have := BD.out.2.2.2.2.1; omega)).mono ?_
  rintro e w3 ⟨rfl, d3, g3⟩
  have H3 : Hid _ := And.intro (H2.out.1.step (s' := dsS2 xs) d3 g3) True.intro
  clear d3 g3
  go_wp2_with fail
  go_at_call 34
  refine (nextC (w.heap.size + 1) v xs 30 (dsS2 xs) w3 H3.out.1.drw (by have := BD.out.2.2.2.2.2.1; omega) (by decide) (by decide)).mono ?_
  rintro e w4 ⟨rfl, d4, g4⟩
  have H4 : Hid _ := And.intro (H3.out.1.step (s' := dsS3 xs) d4 g4) True.intro
  clear d4 g4
  have en1 : nextV xs 30 (dsS2 xs) = ((dsN1 xs : Nat) : Int) := by have := nextV_bd xs 30 (dsS2 xs) (by decide); unfold dsN1; omega
  rw [en1]
  clear en1
  go_wp2_with fail
  go_at_call 33
  refine (bytesC (w.heap.size + 1) v xs (dsS3 xs) (dsN1 xs) w4 H4.out.1.drw H4.out.1.low (by have := BD.out.2.2.2.2.2.2.1; omega) (by have := BD.out.1; omega)).mono ?_
  rintro e w5 ⟨rh, rfl, o5, d5, g5⟩
  have gk4 : w.heap.size + 1 < w4.heap.size := (Array.getElem?_eq_some_iff.1 H4.out.1.drw.blk).1
  obtain ⟨ha, hc, eh⟩ := (row_of_owns o5).form
  rw [bysV_length] at eh
  subst eh
  have H5 : Hid _ := And.intro (H4.out.1.step (s' := dsS4 xs) d5 g5) (And.intro o5 gk4)
  clear d5 g5 o5 gk4
  go_wp2_with fail
  go_at_call 35
  refine (sizeC (w.heap.size + 1) v xs 200 (dsS4 xs) w5 H5.out.1.drw (by decide) (by decide)).mono ?_
  rintro e w5' ⟨rfl, hw5⟩
  subst w5'
  have hwz : IntKind.i64.wrap (szV xs 200 + 1) = szV xs 200 + 1 := by have := BD.out.2.2.1; have := BD.out.2.2.2.1; rw [IntKind.wrap_i64]; omega
  go_wp2_with fail
  go_at_call 34
  refine (nextC (w.heap.size + 1) v xs (szV xs 200 + 1) (dsS4 xs) w5 H5.out.1.drw (by have := BD.out.2.2.2.2.2.2.2.1; omega) (by have := BD.out.2.2.1; omega) (by have := BD.out.2.2.2.1; omega)).mono ?_
  rintro e w6 ⟨rfl, d6, g6⟩
  have H6 : Hid _ := And.intro (H5.out.1.step (s' := dsS5 xs) d6 g6) (owns_drawn H5.out.2.1 H5.out.2.2 g6)
  clear d6 g6
  have en2 : nextV xs (szV xs 200 + 1) (dsS4 xs) = ((dsN2 xs : Nat) : Int) := by have := nextV_bd xs (szV xs 200 + 1) (dsS4 xs) (by have := BD.out.2.2.1; omega); unfold dsN2; omega
  rw [en2]
  clear en2 hwz
  go_wp2_with fail
  go_at_call 33
  refine (bytesC (w.heap.size + 1) v xs (dsS5 xs) (dsN2 xs) w6 H6.out.1.drw H6.out.1.low (by have := BD.out.2.2.2.2.2.2.2.2.1; omega) (by have := BD.out.2.1; omega)).mono ?_
  rintro e w7 ⟨rb, rfl, o7, d7, g7⟩
  have gk6 : w.heap.size + 1 < w6.heap.size := (Array.getElem?_eq_some_iff.1 H6.out.1.drw.blk).1
  have H7 : Hid _ := And.intro (H6.out.1.step (s' := dsS6 xs) d7 g7) (And.intro (owns_drawn H6.out.2 H5.out.2.2 g7) (And.intro o7 gk6))
  clear d7 g7 o7 gk6
  go_wp2_with fail
  go_at_call 36
  refine (chanceC (w.heap.size + 1) v xs 20 (dsS6 xs) w7 H7.out.1.drw (by have := BD.out.2.2.2.2.2.2.2.2.2.1; omega) (by decide) (by decide)).mono ?_
  rintro e w8 ⟨rfl, d8, g8⟩
  have H8 : Hid _ := And.intro (H7.out.1.step (s' := dsS7 xs) d8 g8) (And.intro (owns_drawn H7.out.2.1 H5.out.2.2 g8) (owns_drawn H7.out.2.2.1 H7.out.2.2.2 g8))
  clear d8 g8
  -- the end
  by_cases hch : nextV xs 20 (dsS6 xs) = 19
  · have hcb : (nextV xs 20 (dsS6 xs) == 20 - 1) = true := by rw [beq_iff_eq, hch]; rfl
    rw [hcb]
    have hd1 : dsBody xs = List.replicate (dsBig xs) 0 := by unfold dsBody; rw [if_pos hch]
    have HC : Hid _ := And.intro hd1 True.intro
    clear hch hcb hd1
    have l1 : IntKind.i64.wrap (1500 - ((dsN1 xs : Nat) : Int)) = 1500 - ((dsN1 xs : Nat) : Int) := by have := BD.out.1; rw [IntKind.wrap_i64]; omega
    go_wp2_with fail
    go_at_call 34
    refine (nextC (w.heap.size + 1) v xs 2 (dsS7 xs) w8 H8.out.1.drw (by have := BD.out.2.2.2.2.2.2.2.2.2.2; omega) (by decide) (by decide)).mono ?_
    rintro e w9 ⟨rfl, d9, g9⟩
    have H9 : Hid _ := And.intro (H8.out.1.step (s' := nextS xs 2 (dsS7 xs)) d9 g9) (owns_drawn H8.out.2.1 H5.out.2.2 g9)
    have nb := nextV_bd xs 2 (dsS7 xs) (by decide)
    have hbig : 1500 - ((dsN1 xs : Nat) : Int) + nextV xs 2 (dsS7 xs) = ((dsBig xs : Nat) : Int) := by have := BD.out.1; unfold dsBig; omega
    have l2 : IntKind.i64.wrap (1500 - ((dsN1 xs : Nat) : Int) + nextV xs 2 (dsS7 xs)) = ((dsBig xs : Nat) : Int) := by have := BD.out.1; rw [hbig, IntKind.wrap_i64]; omega
    have l3 : max (0 : Int) ((dsBig xs : Nat) : Int) = ((dsBig xs : Nat) : Int) := by omega
    have hbl : dsBig xs ≤ 1501 := by omega
    have l4 : 0 < dsBig xs := by have := BD.out.1; omega
    clear d9 g9 hbig nb
    obtain ⟨i0, hi⟩ : ∃ i, Try.prog.info? 5 = some i := Option.isSome_iff_exists.mp (by kernel_rfl)
    have hz0 : i0.zero = some (.int .u8 0) := by have e : (Try.prog.info? 5).bind (fun i => i.zero) = some (.int .u8 0) := by kernel_rfl
                                                 rw [hi] at e; exact e
    have hz1 : i0.size = 1 := by have e : (Try.prog.info? 5).map (fun i => i.size) = some 1 := by kernel_rfl
                                 rw [hi] at e; exact Option.some.inj e
    have hz2 : i0.bytes = 1 := by have e : (Try.prog.info? 5).map (fun i => i.bytes) = some 1 := by kernel_rfl
                                  rw [hi] at e; exact Option.some.inj e
    go_wp2_with (
        at_make
        refine wpList_make_full _ rfl _ _ 22 rfl w9.heap.size 5 i0 (.int .u8 0) 1 Try.underlying22 hi hz0 hz1 .i64 .i64 (dsBig xs : Int) (dsBig xs : Int) (dsBig xs) rfl rfl rfl rfl (by rw [hz2]; omega) (by unfold maxLen; omega) (Nat.le_refl _) ?_
        intro w10 hown hg
        have gk9 : w.heap.size + 1 < w9.heap.size := (Array.getElem?_eq_some_iff.1 H9.out.1.drw.blk).1
        have bg : Below w9.heap.size w9 w10 := (Below.refl _ _).grown hg (Nat.le_refl _) (fun k hk => by cases hk)
        have g10 : w9.grownBy w10 (some (w.heap.size + 1)) := grown_of_below bg _
        have HT := H9.out.1.step (H9.out.1.drw.below bg) g10
        have HH : Row w10 .u8 (.slice ha (dsN1 xs) hc) (dsHead xs) := row_of_owns (owns_drawn H9.out.2 H5.out.2.2 g10)
        have HBo : Row w10 .u8 (.slice (some ⟨w9.heap.size, 0, none⟩) (dsBig xs) (dsBig xs)) (dsBody xs) := by
          rw [HC.out.1]
          exact row_of_owns (made_zero hown)
        have H10 : Hid _ := And.intro HT (And.intro HH HBo)
        clear HT HH HBo hown hg bg g10 gk9 hi hz0 hz1 hz2
        have y0 : w10.cell? ⟨w2.heap.size, 0, none⟩ = some (.slice a0 (bkV xs (dsS0 xs)).a.length p0) := by rw [bk_cell H10.out.1.key 0]; rfl
        have u0 : w10.cell? ⟨w.heap.size, 0, none⟩ = some (.slice none 0 0) := by rw [bk_cell H10.out.1.res 0]; rfl
        have f0 : w10.frozen? ⟨w.heap.size, 0, none⟩ = false := bk_free H10.out.1.res 0
        have y1 : w10.cell? ⟨w2.heap.size, 1, none⟩ = some (.slice a1 (bkV xs (dsS0 xs)).b.length p1) := by rw [bk_cell H10.out.1.key 1]; rfl
        have u1 : w10.cell? ⟨w.heap.size, 1, none⟩ = some (.slice none 0 0) := by rw [bk_cell H10.out.1.res 1]; rfl
        have f1 : w10.frozen? ⟨w.heap.size, 1, none⟩ = false := bk_free H10.out.1.res 1
        have y2 : w10.cell? ⟨w2.heap.size, 2, none⟩ = some (.slice a2 (bkV xs (dsS0 xs)).c.length p2) := by rw [bk_cell H10.out.1.key 2]; rfl
        have u2 : w10.cell? ⟨w.heap.size, 2, none⟩ = some (.slice none 0 0) := by rw [bk_cell H10.out.1.res 2]; rfl
        have f2 : w10.frozen? ⟨w.heap.size, 2, none⟩ = false := bk_free H10.out.1.res 2
        have y3 : w10.cell? ⟨w2.heap.size, 3, none⟩ = some (.slice a3 (bkV xs (dsS0 xs)).d.length p3) := by rw [bk_cell H10.out.1.key 3]; rfl
        have u3 : w10.cell? ⟨w.heap.size, 3, none⟩ = some (.slice none 0 0) := by rw [bk_cell H10.out.1.res 3]; rfl
        have f3 : w10.frozen? ⟨w.heap.size, 3, none⟩ = false := bk_free H10.out.1.res 3)
    try simp only [Exit.inBlock, Exit.then]
    refine bodyPost_ret (v := .tuple #[.agg #[.slice a0 (bkV xs (dsS0 xs)).a.length p0, .slice a1 (bkV xs (dsS0 xs)).b.length p1, .slice a2 (bkV xs (dsS0 xs)).c.length p2, .slice a3 (bkV xs (dsS0 xs)).d.length p3], .int .i64 (numV xs (dsS1 xs)), .slice ha (dsN1 xs) hc, .slice (some ⟨w9.heap.size, 0, none⟩) (dsBig xs) (dsBig xs)]) ?_ rfl ?_
    · exact results_row_tmp3 (ty := 24) rfl _ _ w.heap.size _ _ (0, 0) _ _ _ _ rfl rfl rfl rfl (set4_heap H10.out.1.res) Try.underlying24 rfl infoKy
    · refine ⟨_, _, _, rfl, ?_, row_other H10.out.2.1 (nocell H10.out.1.res) (only4 _ _ _ _ _ _), row_other H10.out.2.2 (nocell H10.out.1.res) (only4 _ _ _ _ _ _), ((((H10.out.1.bel.setCell (Nat.le_refl _) _).setCell (Nat.le_refl _) _).setCell (Nat.le_refl _) _).setCell (Nat.le_refl _) _)⟩
      obtain ⟨c0, c1, c2, c3, ee, q0, q1, q2, q3⟩ := H10.out.1.row
      cases ee
      exact ⟨_, _, _, _, rfl, row_other q0 (nocell H10.out.1.res) (only4 _ _ _ _ _ _), row_other q1 (nocell H10.out.1.res) (only4 _ _ _ _ _ _), row_other q2 (nocell H10.out.1.res) (only4 _ _ _ _ _ _), row_other q3 (nocell H10.out.1.res) (only4 _ _ _ _ _ _)⟩
  · have hcb : (nextV xs 20 (dsS6 xs) == 20 - 1) = false := by rw [beq_eq_false_iff_ne]; intro e; exact hch (e.trans (by decide))
    rw [hcb]
    have hd1 : dsBody xs = bysV xs (dsS5 xs) (dsN2 xs) := by unfold dsBody; rw [if_neg hch]
    obtain ⟨ba, bp, eb⟩ := (row_of_owns H8.out.2.2).form
    rw [bysV_length] at eb
    subst eb
    have HBo : Row w8 .u8 (.slice ba (dsN2 xs) bp) (dsBody xs) := by rw [hd1]; exact row_of_owns H8.out.2.2
    have HH : Row w8 .u8 (.slice ha (dsN1 xs) hc) (dsHead xs) := row_of_owns H8.out.2.1
    have H10 : Hid _ := And.intro HH HBo
    clear HH HBo hd1 hcb hch
    have y0 : w8.cell? ⟨w2.heap.size, 0, none⟩ = some (.slice a0 (bkV xs (dsS0 xs)).a.length p0) := by rw [bk_cell H8.out.1.key 0]; rfl
    have u0 : w8.cell? ⟨w.heap.size, 0, none⟩ = some (.slice none 0 0) := by rw [bk_cell H8.out.1.res 0]; rfl
    have f0 : w8.frozen? ⟨w.heap.size, 0, none⟩ = false := bk_free H8.out.1.res 0
    have y1 : w8.cell? ⟨w2.heap.size, 1, none⟩ = some (.slice a1 (bkV xs (dsS0 xs)).b.length p1) := by rw [bk_cell H8.out.1.key 1]; rfl
    have u1 : w8.cell? ⟨w.heap.size, 1, none⟩ = some (.slice none 0 0) := by rw [bk_cell H8.out.1.res 1]; rfl
    have f1 : w8.frozen? ⟨w.heap.size, 1, none⟩ = false := bk_free H8.out.1.res 1
    have y2 : w8.cell? ⟨w2.heap.size, 2, none⟩ = some (.slice a2 (bkV xs (dsS0 xs)).c.length p2) := by rw [bk_cell H8.out.1.key 2]; rfl
    have u2 : w8.cell? ⟨w.heap.size, 2, none⟩ = some (.slice none 0 0) := by rw [bk_cell H8.out.1.res 2]; rfl
    have f2 : w8.frozen? ⟨w.heap.size, 2, none⟩ = false := bk_free H8.out.1.res 2
    have y3 : w8.cell? ⟨w2.heap.size, 3, none⟩ = some (.slice a3 (bkV xs (dsS0 xs)).d.length p3) := by rw [bk_cell H8.out.1.key 3]; rfl
    have u3 : w8.cell? ⟨w.heap.size, 3, none⟩ = some (.slice none 0 0) := by rw [bk_cell H8.out.1.res 3]; rfl
    have f3 : w8.frozen? ⟨w.heap.size, 3, none⟩ = false := bk_free H8.out.1.res 3
    go_wp2
    try simp only [Exit.inBlock, Exit.then]
    refine bodyPost_ret (v := .tuple #[.agg #[.slice a0 (bkV xs (dsS0 xs)).a.length p0, .slice a1 (bkV xs (dsS0 xs)).b.length p1, .slice a2 (bkV xs (dsS0 xs)).c.length p2, .slice a3 (bkV xs (dsS0 xs)).d.length p3], .int .i64 (numV xs (dsS1 xs)), .slice ha (dsN1 xs) hc, .slice ba (dsN2 xs) bp]) ?_ rfl ?_
    · exact results_row_tmp3 (ty := 24) rfl _ _ w.heap.size _ _ (0, 0) _ _ _ _ rfl rfl rfl rfl (set4_heap H8.out.1.res) Try.underlying24 rfl infoKy
    · refine ⟨_, _, _, rfl, ?_, row_other H10.out.1 (nocell H8.out.1.res) (only4 _ _ _ _ _ _), row_other H10.out.2 (nocell H8.out.1.res) (only4 _ _ _ _ _ _), ((((H8.out.1.bel.setCell (Nat.le_refl _) _).setCell (Nat.le_refl _) _).setCell (Nat.le_refl _) _).setCell (Nat.le_refl _) _)⟩
      obtain ⟨c0, c1, c2, c3, ee, q0, q1, q2, q3⟩ := H8.out.1.row
      cases ee
      exact ⟨_, _, _, _, rfl, row_other q0 (nocell H8.out.1.res) (only4 _ _ _ _ _ _), row_other q1 (nocell H8.out.1.res) (only4 _ _ _ _ _ _), row_other q2 (nocell H8.out.1.res) (only4 _ _ _ _ _ _), row_other q3 (nocell H8.out.1.res) (only4 _ _ _ _ _ _)⟩
end Go.Proofs.Ytoebogcglcaikaa

namespace Go.Proofs.Ytoebogcglcaikaa
open Go.RowKit
set_option linter.unusedVariables false

theorem conv_any {P : Program} {w : World} {e ts tstr : Nat} {v : Value} {xs : List Int} (hs : P.underlying ts = some (.slice e)) (he : P.underlying e = some (.int .u8)) (hd : P.underlying tstr = some .string)
    (h : Row w .u8 v xs) : (convert ts tstr v).run P w = .ok (.string (strOfNums xs)) w := by
  by_cases h0 : 0 < xs.length
  · obtain ⟨b, off, cap, rfl, hb, hc⟩ := h.at h0
    exact run_convert_bytes_arg w ts e hs he b off xs.length cap xs rfl hc tstr hd
  · obtain rfl : xs = [] := List.eq_nil_of_length_eq_zero (by omega)
    obtain ⟨ao, cap, rfl⟩ := h.form
    cases ao with
    | none => exact run_convert_bytes_nil w ts e hs he 0 cap tstr hd
    | some p => simp [convert, run_underlying hs, run_underlying he, run_underlying hd, Conv.bytesToString, loadCells, loadCellsFrom, strOfNums]; rfl
theorem sameR (va vb : Value) (xs : List Int) (w : World) (ha : Row w .u8 va xs) (hb : Row w .u8 vb xs) :
    Calls Try.prog 7 #[va, vb] w fun e w' => e = .returned (.bool true) ∧ w' = w := by
  have c1 := conv_any (P := Try.prog) Try.underlying22 Try.underlying5 Try.underlying9 ha
  have c2 := conv_any (P := Try.prog) Try.underlying22 Try.underlying5 Try.underlying9 hb
  clear ha hb
  generalize strOfNums xs = s at c1 c2
  have ht : (s.toList == s.toList) = true := by simp
  go_enter Try.func7, Try.ntmps7
  go_wp2
  go_ret
  exact ⟨rfl, rfl⟩
set_option maxHeartbeats 400000 in
theorem copiedR (v : Value) (xs : List Int) (w : World) (hr : Row w .u8 v xs) (hl : xs.length ≤ 1048576) :
    Calls Try.prog 9 #[v] w fun e w' => ∃ r, e = .returned r ∧ w'.ownsRow w.heap.size 5 1 r xs.length (xs.map (Value.int .u8)) ∧ Below w.heap.size w w' := by
  have ba : Below w.heap.size w (w.alloc (.cells #[] 5)) := (Below.refl _ _).alloc (Nat.le_refl _) _
  have HN : Hid _ := And.intro (hr.below ba) (And.intro ba hl)
  clear hr ba hl
  go_enter Try.func9, Try.ntmps9
  go_wp2_with (at_builtin; refine wpList_append_row rfl _ _ rfl w.heap.size (.slice (some ⟨w.heap.size, 0, none⟩) 0 0) 0 [] rfl (World.ownsRow_lit w #[] 0 (Nat.le_refl _) (by decide) rfl) v xs rfl HN.out.1 (by have := HN.out.2.2; omega) (by simp) ?_; intro v' w2 hown2 hgrow)
  have R : w2.ownsRow w.heap.size 5 1 v' xs.length (xs.map (Value.int .u8)) := by simpa using hown2
  have B : Below w.heap.size w w2 := HN.out.2.1.grown hgrow (by simp) (by intro k hk; simp [Value.ownBlock] at hk; omega)
  have HR : Hid _ := And.intro R B
  clear R B hown2 hgrow
  go_wp2
  go_ret
  exact ⟨_, rfl, HR.out.1, HR.out.2⟩
set_option maxRecDepth 20000 in
set_option maxHeartbeats 4000000 in
theorem drawSeal (v : Value) (xs : List Int) (w : World) (hrow : Row w .u8 v xs) (hB : Bytes xs) (hl : xs.length ≤ 1048576) :
    Calls Try.prog 4 #[v] w fun e w' => ∃ vk vh vb, e = .returned (.tuple #[vk, .int .i64 (dsNum xs), vh, vb]) ∧ KRow w' vk (bkV xs (dsS0 xs)) ∧ Row w' .u8 vh (dsHead xs) ∧ Row w' .u8 vb (dsBody xs) ∧ Below w.heap.size w w' := by
  have A0 : Below w.heap.size w (w.alloc (.cells #[.slice none 0 0, .slice none 0 0, .slice none 0 0, .slice none 0 0] 24)) := (Below.refl _ _).alloc (Nat.le_refl _) _
  have C := drawSealC v xs _ (hrow.below A0) hB hl
  have HA : Hid _ := And.intro A0 True.intro
  clear A0 hrow hB hl
  go_enter Try.func4, Try.ntmps4
  go_wp2_with fail
  go_at_call 13
  refine C.mono ?_
  rintro e w1 ⟨vk, vh, vb, rfl, k1, h1, b1, bl⟩
  have R1 : w1.heap[w.heap.size]? = some (.cells #[.slice none 0 0, .slice none 0 0, .slice none 0 0, .slice none 0 0] 24 (0, 0)) := by
    rw [bl.block _ (by simp)]; exact heap_alloc_new w _
  obtain ⟨c0, c1, c2, c3, ee, q0, q1, q2, q3⟩ := k1
  subst ee
  obtain ⟨a0, p0, e0⟩ := q0.form
  obtain ⟨a1, p1, e1⟩ := q1.form
  obtain ⟨a2, p2, e2⟩ := q2.form
  obtain ⟨a3, p3, e3⟩ := q3.form
  subst e0 e1 e2 e3
  have BB : Below w.heap.size w w1 := HA.out.1.trans (bl.mono HA.out.1.size)
  have H1 : Hid _ := And.intro R1 (And.intro h1 (And.intro b1 (And.intro BB (And.intro q0 (And.intro q1 (And.intro q2 q3))))))
  have u0 : w1.cell? ⟨w.heap.size, 0, none⟩ = some (.slice none 0 0) := by rw [bk_cell R1 0]; rfl
  have f0 : w1.frozen? ⟨w.heap.size, 0, none⟩ = false := bk_free R1 0
  have u1 : w1.cell? ⟨w.heap.size, 1, none⟩ = some (.slice none 0 0) := by rw [bk_cell R1 1]; rfl
  have f1 : w1.frozen? ⟨w.heap.size, 1, none⟩ = false := bk_free R1 1
  have u2 : w1.cell? ⟨w.heap.size, 2, none⟩ = some (.slice none 0 0) := by rw [bk_cell R1 2]; rfl
  have f2 : w1.frozen? ⟨w.heap.size, 2, none⟩ = false := bk_free R1 2
  have u3 : w1.cell? ⟨w.heap.size, 3, none⟩ = some (.slice none 0 0) := by rw [bk_cell R1 3]; rfl
  have f3 : w1.frozen? ⟨w.heap.size, 3, none⟩ = false := bk_free R1 3
  clear R1 h1 b1 BB bl q0 q1 q2 q3 C
  go_wp2
  try simp only [Exit.inBlock, Exit.then]
  refine bodyPost_ret (v := .tuple #[.agg #[.slice a0 (bkV xs (dsS0 xs)).a.length p0, .slice a1 (bkV xs (dsS0 xs)).b.length p1, .slice a2 (bkV xs (dsS0 xs)).c.length p2, .slice a3 (bkV xs (dsS0 xs)).d.length p3], .int .i64 (dsNum xs), vh, vb]) ?_ rfl ?_
  · exact results_row_tmp3 (ty := 24) rfl _ _ w.heap.size _ _ (0, 0) _ _ _ _ rfl rfl rfl rfl (set4_heap H1.out.1) Try.underlying24 rfl infoKy
  · refine ⟨_, _, _, rfl, ?_, row_other H1.out.2.1 (nocell H1.out.1) (only4 _ _ _ _ _ _), row_other H1.out.2.2.1 (nocell H1.out.1) (only4 _ _ _ _ _ _), ((((H1.out.2.2.2.1.setCell (Nat.le_refl _) _).setCell (Nat.le_refl _) _).setCell (Nat.le_refl _) _).setCell (Nat.le_refl _) _)⟩
    have QQ := H1.out.2.2.2.2
    exact ⟨_, _, _, _, rfl, row_other QQ.1 (nocell H1.out.1) (only4 _ _ _ _ _ _), row_other QQ.2.1 (nocell H1.out.1) (only4 _ _ _ _ _ _), row_other QQ.2.2.1 (nocell H1.out.1) (only4 _ _ _ _ _ _), row_other QQ.2.2.2 (nocell H1.out.1) (only4 _ _ _ _ _ _)⟩
end Go.Proofs.Ytoebogcglcaikaa

namespace Go.Proofs.Ytoebogcglcaikaa
open Go.RowKit
set_option linter.unusedVariables false

/-- What stands in FnSealed: the code, the keys in their block, head and body. -/
structure SlA (w W : World) (v : Value) (xs : List Int) (k : K4) (hd bd : List Int) (g : Nat) (x0 x1 x2 x3 vh vb : Value) : Prop where
  bel : Below w.heap.size w W
  row : Row W .u8 v xs
  blk : W.heap[g]? = some (.cells #[x0, x1, x2, x3] 24 (0, 0))
  key : KRow W (.agg #[x0, x1, x2, x3]) k
  rh : Row W .u8 vh hd
  rb : Row W .u8 vb bd
theorem SlA.step {w W W' : World} {v : Value} {xs : List Int} {k : K4} {hd bd : List Int} {g : Nat} {x0 x1 x2 x3 vh vb : Value} (h : SlA w W v xs k hd bd g x0 x1 x2 x3 vh vb) (b : Below W.heap.size W W') : SlA w W' v xs k hd bd g x0 x1 x2 x3 vh vb :=
  ⟨h.bel.trans (b.mono h.bel.size), h.row.below b, (b.block _ (Array.getElem?_eq_some_iff.1 h.blk).1).trans h.blk, h.key.below b, h.rh.below b, h.rb.below b⟩
theorem SlA.c4 {w W : World} {v : Value} {xs : List Int} {k : K4} {hd bd : List Int} {g : Nat} {x0 x1 x2 x3 vh vb : Value} (h : SlA w W v xs k hd bd g x0 x1 x2 x3 vh vb) : W.cell? ⟨g, 0, none⟩ = some x0 ∧ W.cell? ⟨g, 1, none⟩ = some x1 ∧ W.cell? ⟨g, 2, none⟩ = some x2 ∧ W.cell? ⟨g, 3, none⟩ = some x3 :=
  ⟨by rw [bk_cell h.blk 0]; rfl, by rw [bk_cell h.blk 1]; rfl, by rw [bk_cell h.blk 2]; rfl, by rw [bk_cell h.blk 3]; rfl⟩
theorem SlA.made {w W : World} {v : Value} {xs : List Int} {k : K4} {hd bd : List Int} {x0 x1 x2 x3 vh vb : Value} (hb : Below w.heap.size w W) (hv : Row W .u8 v xs) (hk : KRow W (.agg #[x0, x1, x2, x3]) k) (rh : Row W .u8 vh hd) (rb : Row W .u8 vb bd) :
    SlA w (W.alloc (.cells #[x0, x1, x2, x3] 24)) v xs k hd bd W.heap.size x0 x1 x2 x3 vh vb := by
  have b : Below W.heap.size W (W.alloc (.cells #[x0, x1, x2, x3] 24)) := (Below.refl _ _).alloc (Nat.le_refl _) _
  exact ⟨hb.trans (b.mono hb.size), hv.below b, heap_alloc_new W _, hk.below b, rh.below b, rb.below b⟩
/-- A draw contract, whatever is drawn. -/
def DrwC (xs : List Int) (k : K4) (num : Int) (hd bd : List Int) : Prop := ∀ (W : World) (v : Value), Row W .u8 v xs → Calls Try.prog 4 #[v] W fun e w' => ∃ vk vh vb, e = .returned (.tuple #[vk, .int .i64 num, vh, vb]) ∧ KRow w' vk k ∧ Row w' .u8 vh hd ∧ Row w' .u8 vb bd ∧ Below W.heap.size W w'
/-- A contract of a function of keys, a number and two texts, whose answer is a text and a code. -/
def SlC (f : Nat) (k : K4) (num : Int) (hd bd S : List Int) (E : Int) : Prop := ∀ (W : World) (vk vh vb : Value), KRow W vk k → Row W .u8 vh hd → Row W .u8 vb bd → Calls Try.prog f #[vk, .int .i64 num, vh, vb] W fun e w' => ∃ r, e = .returned (.tuple #[r, .int .i64 E]) ∧ Row w' .u8 r S ∧ Below W.heap.size W w'
def SlE (f : Nat) (k : K4) (num : Int) (hd bd : List Int) (E : Int) : Prop := ∀ (W : World) (vk vh vb : Value), KRow W vk k → Row W .u8 vh hd → Row W .u8 vb bd → Calls Try.prog f #[vk, .int .i64 num, vh, vb] W fun e w' => ∃ r, e = .returned (.tuple #[r, .int .i64 E]) ∧ Below W.heap.size W w'
def NxC (f : Nat) (k nk : K4) : Prop := ∀ (W : World) (vk : Value), KRow W vk k → Calls Try.prog f #[vk] W fun e w' => ∃ r, e = .returned r ∧ KRow w' r nk ∧ Below W.heap.size W w'

theorem sealed_long (ao : Option Addr) (n cap : Nat) (w : World) (h : 1048576 < n) (h2 : n ≤ 9223372036854775807) :
    Calls Try.prog 3 #[.slice ao n cap] w fun e w' => e = .returned (.bool true) ∧ Below w.heap.size w w' := by
  go_enter Try.func3, Try.ntmps3
  go_wp2
  go_ret
  exact ⟨rfl, Below.refl _ _⟩

set_option maxRecDepth 20000 in
set_option maxHeartbeats 1000000 in
theorem sealed_err (v : Value) (xs : List Int) (k : K4) (num : Int) (hd bd : List Int) (E : Int) (w : World) (hrow : Row w .u8 v xs) (hl : xs.length ≤ 1048576) (hD : DrwC xs k num hd bd)
    (hS : SlC 5 k num hd bd [] E) (hI : SlC 6 k num hd bd [] E) (hE : E ≠ 0) :
    Calls Try.prog 3 #[v] w fun e w' => e = .returned (.bool true) ∧ Below w.heap.size w w' := by
  obtain ⟨ao, cp, ev⟩ := hrow.form
  subst ev
  obtain ⟨n, en⟩ : ∃ n, n = xs.length := ⟨_, rfl⟩
  rw [← en] at hrow hl ⊢
  have e1 : (E != E) = false := by simp
  have e2 : (E != 0) = true := by simpa using hE
  unfold DrwC at hD
  unfold SlC at hS hI
  have HD : Hid _ := And.intro hD True.intro
  have HS : Hid _ := And.intro hS (And.intro hI True.intro)
  have H0 : Hid _ := And.intro hrow True.intro
  clear hD hS hI hE hrow en
  go_enter Try.func3, Try.ntmps3
  go_wp2_with fail
  go_at_call 4
  refine (HD.out.1 _ _ H0.out.1).mono ?_
  rintro e w1 ⟨vk, vh, vb, rfl, kk, rh, rb, b1⟩
  obtain ⟨x0, x1, x2, x3, ek, q0, q1, q2, q3⟩ := id kk
  subst ek
  obtain ⟨a0, ap0, f0⟩ := q0.form
  obtain ⟨a1, ap1, f1⟩ := q1.form
  obtain ⟨a2, ap2, f2⟩ := q2.form
  obtain ⟨a3, ap3, f3⟩ := q3.form
  subst f0 f1 f2 f3
  have A1 : Hid _ := And.intro (SlA.made b1 (H0.out.1.below b1) kk rh rb) True.intro
  clear kk rh rb b1 q0 q1 q2 q3
  go_wp2_with fail
  go_at_call 5
  refine (HS.out.1 _ _ _ _ A1.out.1.key A1.out.1.rh A1.out.1.rb).mono ?_
  rintro e w2 ⟨vs, rfl, rs, b2⟩
  have A2 : Hid _ := And.intro (A1.out.1.step b2) rs
  clear rs b2
  go_wp2_with fail
  go_at_call 4
  refine (HD.out.1 _ _ A2.out.1.row).mono ?_
  rintro e w3 ⟨vl, vi, vc, rfl, kl, ri, rc, b3⟩
  obtain ⟨z0, z1, z2, z3, ek, q0, q1, q2, q3⟩ := id kl
  subst ek
  obtain ⟨d0, dp0, f0⟩ := q0.form
  obtain ⟨d1, dp1, f1⟩ := q1.form
  obtain ⟨d2, dp2, f2⟩ := q2.form
  obtain ⟨d3, dp3, f3⟩ := q3.form
  subst f0 f1 f2 f3
  have bA : Below w3.heap.size w3 (w3.alloc (.cells #[.slice d0 k.a.length dp0, .slice d1 k.b.length dp1, .slice d2 k.c.length dp2, .slice d3 k.d.length dp3] 24)) := (Below.refl _ _).alloc (Nat.le_refl _) _
  have A3 : Hid _ := And.intro ((A2.out.1.step b3).step bA) (And.intro ((A2.out.2.below b3).below bA) (And.intro (kl.below bA) (And.intro (ri.below bA) (rc.below bA))))
  clear kl ri rc b3 q0 q1 q2 q3 bA
  go_wp2_with fail
  go_at_call 6
  refine (HS.out.2.1 _ _ _ _ A3.out.2.2.1 A3.out.2.2.2.1 A3.out.2.2.2.2).mono ?_
  rintro e w4 ⟨vg, rfl, rg, b4⟩
  have A4 : Hid _ := And.intro (A3.out.1.step b4) (And.intro (A3.out.2.1.below b4) rg)
  clear rg b4
  go_wp2_with fail
  go_at_call 7
  refine (sameR _ _ [] _ A4.out.2.2 A4.out.2.1).mono ?_
  rintro e w5 ⟨rfl, e5⟩
  subst e5
  go_wp2
  go_ret
  exact ⟨rfl, A4.out.1.bel⟩
end Go.Proofs.Ytoebogcglcaikaa

namespace Go.Proofs.Ytoebogcglcaikaa
open Go.RowKit
set_option linter.unusedVariables false

theorem nkc4 {W : World} {g : Nat} {x0 x1 x2 x3 : Value} (h : W.heap[g]? = some (.cells #[x0, x1, x2, x3] 24 (0, 0))) : W.cell? ⟨g, 0, none⟩ = some x0 ∧ W.cell? ⟨g, 1, none⟩ = some x1 ∧ W.cell? ⟨g, 2, none⟩ = some x2 ∧ W.cell? ⟨g, 3, none⟩ = some x3 :=
  ⟨by rw [bk_cell h 0]; rfl, by rw [bk_cell h 1]; rfl, by rw [bk_cell h 2]; rfl, by rw [bk_cell h 3]; rfl⟩
theorem blk_step {W W' : World} {g : Nat} {o : Obj} (h : W.heap[g]? = some o) (b : Below W.heap.size W W') : W'.heap[g]? = some o := (b.block _ (Array.getElem?_eq_some_iff.1 h).1).trans h
theorem krow_d {W : World} {x0 x1 x2 x3 : Value} {k : K4} (h : KRow W (.agg #[x0, x1, x2, x3]) k) : Row W .u8 x3 k.d := by
  obtain ⟨c0, c1, c2, c3, ee, q0, q1, q2, q3⟩ := h
  cases ee
  exact q3
set_option maxRecDepth 20000 in
set_option maxHeartbeats 8000000 in
theorem sealed_ok (v : Value) (xs : List Int) (k nk : K4) (num oth : Int) (hd bd S : List Int) (ca ci : Int) (w : World) (hrow : Row w .u8 v xs) (hl : xs.length ≤ 1048576) (hD : DrwC xs k num hd bd)
    (hS : SlC 5 k num hd bd S 0) (hI : SlC 6 k num hd bd S 0) (hO : SlC 8 k num hd S bd 0)
    (hN : NxC 10 k nk) (hM : NxC 12 k nk)
    (hA : SlE 8 nk num hd S ca) (hB : SlE 11 nk num hd S ca)
    (hi : SlE 8 k oth hd S ci) (hj : SlE 11 k oth hd S ci)
    (hh : hd.length ≤ 1048576) (hs : S.length ≤ 1048576) (h0 : 0 ≤ num) (h1 : num ≤ 4611686018427387903) (ho : oth = (num + 1) % 4611686018427387903) (hm : nk.d = k.d) (hn : nk.a.length = 16) :
    Calls Try.prog 3 #[v] w fun e w' => e = .returned (.bool true) ∧ Below w.heap.size w w' := by
  obtain ⟨ao, cp, ev⟩ := hrow.form
  subst ev
  obtain ⟨n, en⟩ : ∃ n, n = xs.length := ⟨_, rfl⟩
  rw [← en] at hrow hl ⊢
  unfold DrwC at hD
  unfold SlC at hS hI hO
  unfold NxC at hN hM
  unfold SlE at hA hB hi hj
  have HD : Hid _ := And.intro hD True.intro
  have HS : Hid _ := And.intro hS (And.intro hI True.intro)
  have HO : Hid _ := And.intro hO True.intro
  have HN : Hid _ := And.intro hN (And.intro hM True.intro)
  have HA : Hid _ := And.intro hA (And.intro hB True.intro)
  have HI : Hid _ := And.intro hi (And.intro hj True.intro)
  have H0 : Hid _ := And.intro hrow (And.intro hh hs)
  have HM : Hid _ := And.intro hm (And.intro hn True.intro)
  have w1e : IntKind.i64.wrap (num + 1) = num + 1 := by rw [IntKind.wrap_i64]; omega
  have rme : Int.tmod (num + 1) 4611686018427387903 = oth := by rw [ho]; exact Int.tmod_eq_emod_of_nonneg (by omega)
  have woe : IntKind.i64.wrap oth = oth := by rw [IntKind.wrap_i64, ho]; omega
  have ea : (ca == ca) = true := by simp
  have ei : (ci == ci) = true := by simp
  have hn' : ((nk.a.length : Nat) : Int) = 16 := by rw [hn]; rfl
  have e16 : (((nk.a.length : Nat) : Int) == 16) = true := by rw [hn']; rfl
  clear hD hS hI hO hN hM hA hB hi hj hrow en hm hn hh hs ho h0 h1 hn'
  go_enter Try.func3, Try.ntmps3
  go_wp2_with fail
  go_at_call 4
  refine (HD.out.1 _ _ H0.out.1).mono ?_
  rintro e w1 ⟨vk, vh, vb, rfl, kk, rh, rb, b1⟩
  obtain ⟨x0, x1, x2, x3, ek, q0, q1, q2, q3⟩ := id kk
  subst ek
  obtain ⟨a0, ap0, f0⟩ := q0.form
  obtain ⟨a1, ap1, f1⟩ := q1.form
  obtain ⟨a2, ap2, f2⟩ := q2.form
  obtain ⟨a3, ap3, f3⟩ := q3.form
  subst f0 f1 f2 f3
  have A1 : Hid _ := And.intro (SlA.made b1 (H0.out.1.below b1) kk rh rb) True.intro
  clear kk rh rb b1 q0 q1 q2 q3
  go_wp2_with fail
  go_at_call 5
  refine (HS.out.1 _ _ _ _ A1.out.1.key A1.out.1.rh A1.out.1.rb).mono ?_
  rintro e w2 ⟨vs, rfl, rs, b2⟩
  have A2 : Hid _ := And.intro (A1.out.1.step b2) rs
  clear rs b2
  go_wp2_with fail
  go_at_call 4
  refine (HD.out.1 _ _ A2.out.1.row).mono ?_
  rintro e w3 ⟨vl, vi, vc, rfl, kl, ri, rc, b3⟩
  obtain ⟨z0, z1, z2, z3, ek, q0, q1, q2, q3⟩ := id kl
  subst ek
  obtain ⟨d0, dp0, f0⟩ := q0.form
  obtain ⟨d1, dp1, f1⟩ := q1.form
  obtain ⟨d2, dp2, f2⟩ := q2.form
  obtain ⟨d3, dp3, f3⟩ := q3.form
  subst f0 f1 f2 f3
  have bA : Below w3.heap.size w3 (w3.alloc (.cells #[.slice d0 k.a.length dp0, .slice d1 k.b.length dp1, .slice d2 k.c.length dp2, .slice d3 k.d.length dp3] 24)) := (Below.refl _ _).alloc (Nat.le_refl _) _
  have A3 : Hid _ := And.intro ((A2.out.1.step b3).step bA) (And.intro ((A2.out.2.below b3).below bA) (And.intro (kl.below bA) (And.intro (ri.below bA) (rc.below bA))))
  clear kl ri rc b3 q0 q1 q2 q3 bA
  go_wp2_with fail
  go_at_call 6
  refine (HS.out.2.1 _ _ _ _ A3.out.2.2.1 A3.out.2.2.2.1 A3.out.2.2.2.2).mono ?_
  rintro e w4 ⟨vg, rfl, rg, b4⟩
  have A4 : Hid _ := And.intro (A3.out.1.step b4) (And.intro (A3.out.2.1.below b4) rg)
  clear rg b4
  go_wp2_with fail
  go_at_call 7
  refine (sameR _ _ S _ A4.out.2.2 A4.out.2.1).mono ?_
  rintro e w5 ⟨rfl, e5⟩
  subst e5
  go_upto_region 11 with fail
  go_cut [15, 16] from 71 to 80 (fun cb cg wx => cg = .int .i64 0 ∧ Row wx .u8 cb bd ∧ Below w5.heap.size w5 wx)
  case first =>
    have D : Hid (Below w5.heap.size w5 w5.drew) := ⟨rfl, rfl, rfl, Nat.le_refl _, fun _ _ => rfl⟩
    have AD : Hid _ := And.intro (A4.out.1.step D.out) (A4.out.2.2.below D.out)
    obtain ⟨ld0, ld1, ld2, ld3⟩ := AD.out.1.c4
    go_region_with (first
      | (go_at_call_of 9 vh; refine (copiedR _ hd w5.drew AD.out.1.rh H0.out.2.1).mono ?_; rintro e wy ⟨ry, rfl, oy, by1⟩; have AY : Hid _ := And.intro (AD.out.1.step by1) (And.intro (AD.out.2.below by1) (And.intro (row_of_owns oy) by1)); clear oy by1; obtain ⟨le0, le1, le2, le3⟩ := AY.out.1.c4)
      | (go_at_call_of 9 vg; refine (copiedR _ S wy AY.out.2.1 H0.out.2.2).mono ?_; rintro e wz ⟨rz, rfl, oz, bz1⟩; have AZ : Hid _ := And.intro (AY.out.1.step bz1) (And.intro (AY.out.2.2.1.below bz1) (And.intro (row_of_owns oz) (D.out.trans ((AY.out.2.2.2.trans (bz1.mono AY.out.2.2.2.size)).mono D.out.size)))); clear oz bz1; obtain ⟨lf0, lf1, lf2, lf3⟩ := AZ.out.1.c4)
      | (go_at_call_of 9 vg; refine (copiedR _ S w5.drew AD.out.2 H0.out.2.2).mono ?_; rintro e wy ⟨ry, rfl, oy, by1⟩; have AY : Hid _ := And.intro (AD.out.1.step by1) (And.intro (row_of_owns oy) by1); clear oy by1; obtain ⟨le0, le1, le2, le3⟩ := AY.out.1.c4)
      | (go_at_call_of 9 vh; refine (copiedR _ hd wy AY.out.1.rh H0.out.2.1).mono ?_; rintro e wz ⟨rz, rfl, oz, bz1⟩; have AZ : Hid _ := And.intro (AY.out.1.step bz1) (And.intro (row_of_owns oz) (And.intro (AY.out.2.1.below bz1) (D.out.trans ((AY.out.2.2.trans (bz1.mono AY.out.2.2.size)).mono D.out.size)))); clear oz bz1; obtain ⟨lf0, lf1, lf2, lf3⟩ := AZ.out.1.c4)
      | (go_at_call 8; refine (HO.out.1 wz _ _ _ AZ.out.1.key AZ.out.2.1 AZ.out.2.2.1).mono ?_; rintro e wo ⟨ro, rfl, oo, bo⟩))
    all_goals (go_wp2_with fail; go_meet; exact ⟨rfl, oo, AZ.out.2.2.2.trans (bo.mono AZ.out.2.2.2.size)⟩)
  case rest =>
  obtain ⟨rfl, rbk, bc⟩ := hcut
  have A5 : Hid _ := And.intro (A4.out.1.step bc) (And.intro (A4.out.2.1.below bc) (And.intro (A4.out.2.2.below bc) rbk))
  clear rbk bc
  go_wp2_with fail
  go_at_call 7
  refine (sameR _ _ bd _ A5.out.2.2.2 A5.out.1.rb).mono ?_
  rintro e w6 ⟨rfl, e6⟩
  subst e6
  obtain ⟨ld0, ld1, ld2, ld3⟩ := A5.out.1.c4
  go_wp2_with fail
  go_at_call 10
  refine (HN.out.1 _ _ A5.out.1.key).mono ?_
  rintro e w7 ⟨vn, rfl, kn, b7⟩
  clear ld0 ld1 ld2 ld3
  obtain ⟨y0, y1, y2, y3, ek, q0, q1, q2, q3⟩ := id kn
  subst ek
  obtain ⟨n0, np0, f0⟩ := q0.form
  obtain ⟨n1, np1, f1⟩ := q1.form
  obtain ⟨n2, np2, f2⟩ := q2.form
  obtain ⟨n3, np3, f3⟩ := q3.form
  subst f0 f1 f2 f3
  have bN : Below w7.heap.size w7 (w7.alloc (.cells #[.slice n0 nk.a.length np0, .slice n1 nk.b.length np1, .slice n2 nk.c.length np2, .slice n3 nk.d.length np3] 24)) := (Below.refl _ _).alloc (Nat.le_refl _) _
  have A7 : Hid _ := And.intro ((A5.out.1.step b7).step bN) (And.intro ((A5.out.2.1.below b7).below bN) (And.intro ((A5.out.2.2.1.below b7).below bN) (And.intro (kn.below bN) (heap_alloc_new w7 (.cells #[.slice n0 nk.a.length np0, .slice n1 nk.b.length np1, .slice n2 nk.c.length np2, .slice n3 nk.d.length np3] 24)))))
  clear kn b7 q0 q1 q2 q3 bN
  go_wp2_with fail
  go_at_call 8
  refine (HA.out.1 _ _ _ _ A7.out.2.2.2.1 A7.out.1.rh A7.out.2.2.1).mono ?_
  rintro e w8 ⟨r8, rfl, b8⟩
  have A8 : Hid _ := And.intro (A7.out.1.step b8) (And.intro (A7.out.2.1.below b8) (And.intro (A7.out.2.2.1.below b8) (And.intro (A7.out.2.2.2.1.below b8) (blk_step A7.out.2.2.2.2 b8))))
  clear b8
  obtain ⟨ld0, ld1, ld2, ld3⟩ := A8.out.1.c4
  go_wp2_with fail
  go_at_call 12
  refine (HN.out.2.1 _ _ A8.out.1.key).mono ?_
  rintro e w9 ⟨vm, rfl, km, b9⟩
  clear ld0 ld1 ld2 ld3
  have A9 : Hid _ := And.intro (A8.out.1.step b9) (And.intro (A8.out.2.1.below b9) (And.intro (A8.out.2.2.1.below b9) (And.intro (A8.out.2.2.2.1.below b9) (And.intro (blk_step A8.out.2.2.2.2 b9) km))))
  clear km b9
  go_wp2_with fail
  go_at_call 11
  refine (HA.out.2.1 _ _ _ _ A9.out.2.2.2.2.2 A9.out.1.rh A9.out.2.1).mono ?_
  rintro e w10 ⟨r10, rfl, b10⟩
  have A10 : Hid _ := And.intro (A9.out.1.step b10) (And.intro (A9.out.2.1.below b10) (And.intro (A9.out.2.2.1.below b10) (And.intro (A9.out.2.2.2.1.below b10) (blk_step A9.out.2.2.2.2.1 b10))))
  clear b10
  obtain ⟨ld0, ld1, ld2, ld3⟩ := A10.out.1.c4
  go_wp2_with fail
  go_at_call 8
  refine (HI.out.1 _ _ _ _ A10.out.1.key A10.out.1.rh A10.out.2.2.1).mono ?_
  rintro e w11 ⟨r11, rfl, b11⟩
  clear ld0 ld1 ld2 ld3
  have A11 : Hid _ := And.intro (A10.out.1.step b11) (And.intro (A10.out.2.1.below b11) (And.intro (A10.out.2.2.1.below b11) (And.intro (A10.out.2.2.2.1.below b11) (blk_step A10.out.2.2.2.2 b11))))
  clear b11
  obtain ⟨ld0, ld1, ld2, ld3⟩ := A11.out.1.c4
  go_wp2_with fail
  go_at_call 11
  refine (HI.out.2.1 _ _ _ _ A11.out.1.key A11.out.1.rh A11.out.2.1).mono ?_
  rintro e w12 ⟨r12, rfl, b12⟩
  clear ld0 ld1 ld2 ld3
  have A12 : Hid _ := And.intro (A11.out.1.step b12) (And.intro (A11.out.2.2.2.1.below b12) (blk_step A11.out.2.2.2.2 b12))
  clear b12
  obtain ⟨ld0, ld1, ld2, ld3⟩ := A12.out.1.c4
  obtain ⟨le0, le1, le2, le3⟩ := nkc4 A12.out.2.2
  go_wp2_with fail
  go_at_call 7
  refine (sameR _ _ k.d _ (by rw [← HM.out.1]; exact krow_d A12.out.2.1) (krow_d A12.out.1.key)).mono ?_
  rintro e w13 ⟨rfl, e13⟩
  subst e13
  go_wp2
  go_ret
  exact ⟨rfl, A12.out.1.bel⟩
end Go.Proofs.Ytoebogcglcaikaa

namespace Go.Proofs.Ytoebogcglcaikaa
open Go.RowKit
set_option linter.unusedVariables false

theorem xor8_val (x y : Int) : bits .xor .u8 x y = ((BitVec.ofInt 8 x ^^^ BitVec.ofInt 8 y).toNat : Int) := by
  have h : bits .xor .u8 x y = IntKind.u8.wrap ((BitVec.ofInt 8 x ^^^ BitVec.ofInt 8 y).toNat : Int) := rfl
  rw [h]
  have hb := (BitVec.ofInt 8 x ^^^ BitVec.ofInt 8 y).isLt
  generalize (BitVec.ofInt 8 x ^^^ BitVec.ofInt 8 y).toNat = m at hb ⊢
  simp only [IntKind.wrap, IntKind.bits, IntKind.signed]
  simp
  omega
theorem xor8_back (x y : Int) (h0 : 0 ≤ x) (h1 : x < 256) : bits .xor .u8 (bits .xor .u8 x y) y = x := by
  rw [xor8_val (bits .xor .u8 x y) y, xor8_val x y]
  have e : BitVec.ofInt 8 (((BitVec.ofInt 8 x ^^^ BitVec.ofInt 8 y).toNat : Nat) : Int) = BitVec.ofInt 8 x ^^^ BitVec.ofInt 8 y := by
    apply BitVec.eq_of_toNat_eq
    have hb := (BitVec.ofInt 8 x ^^^ BitVec.ofInt 8 y).isLt
    rw [BitVec.toNat_ofInt]
    generalize (BitVec.ofInt 8 x ^^^ BitVec.ofInt 8 y).toNat = m at hb ⊢
    omega
  rw [e, BitVec.xor_assoc, BitVec.xor_self, BitVec.xor_zero, BitVec.toNat_ofInt]
  omega
theorem xl_back (xs ys : List Int) (h : Bytes xs) : xl (xl xs ys xs.length) ys xs.length = xs := by
  apply List.ext_getElem
  · rw [xl_length]
  · intro j h1 h2
    have e1 : (xl xs ys xs.length).getD j 0 = bits .xor .u8 (xs.getD j 0) (ys.getD j 0) := by
      have : j < (xl xs ys xs.length).length := by rw [xl_length]; exact h2
      rw [List.getD_eq_getElem?_getD, List.getElem?_eq_getElem this]
      simp [xl]
    have e2 : (xl (xl xs ys xs.length) ys xs.length)[j] = bits .xor .u8 ((xl xs ys xs.length).getD j 0) (ys.getD j 0) := by simp [xl]
    have e3 : xs.getD j 0 = xs[j] := by rw [List.getD_eq_getElem?_getD, List.getElem?_eq_getElem h2]; rfl
    have hb := h xs[j] (List.getElem_mem h2)
    rw [e2, e1, e3, xor8_back _ _ hb.1 hb.2]
theorem overV_back (k : K4) (num : Int) (xs : List Int) (h : Bytes xs) : overV k num (overV k num xs) = xs := by
  show xl (overV k num xs) (sblk k.b (nonV k num) (((overV k num xs).length + 15) / 16)) (overV k num xs).length = xs
  rw [overV_length]
  exact xl_back xs _ h
theorem sealV_take (k : K4) (num : Int) (hd bd : List Int) : (sealV k num hd bd).take bd.length = overV k num bd := by
  unfold sealV
  rw [List.take_append_of_le_length (by rw [overV_length]; exact Nat.le_refl _), List.take_of_length_le (by rw [overV_length]; exact Nat.le_refl _)]
theorem sealV_drop (k : K4) (num : Int) (hd bd : List Int) : (sealV k num hd bd).drop bd.length = tagV k.b (nonV k num) hd (overV k num bd) := by
  unfold sealV
  rw [List.drop_append_of_le_length (by rw [overV_length]; exact Nat.le_refl _), List.drop_of_length_le (by rw [overV_length]; exact Nat.le_refl _)]
  rfl
theorem sealV_bytes (k : K4) (num : Int) (hd bd : List Int) : Bytes (sealV k num hd bd) := by
  intro x hx
  rcases List.mem_append.1 hx with h | h
  · exact xl_bytes _ _ _ x h
  · exact tagV_bytes _ _ _ _ x h
theorem nxtK_bytes (k : K4) (h : k.bytes) : (nxtK k).bytes := ⟨derV_bytes _ _ _, derV_bytes _ _ _, derV_bytes _ _ _, h.2.2.2⟩

theorem KOwns.toRow {w : World} {base : Nat} {v : Value} {k : K4} (h : KOwns w base v k) : KRow w v k := KOwns.row h

/-- The contracts in the shape that the law asks. -/
theorem slc_seal (k : K4) (num : Int) (hd bd : List Int) (kb : k.bytes) (hk : kok k) (h0 : 0 ≤ num) (h1 : num ≤ 4611686018427387903) (hl : hd.length + bd.length ≤ 1500) (bh : Bytes hd) (bb : Bytes bd) : SlC 5 k num hd bd (sealV k num hd bd) 0 := by
  intro W vk vh vb rk rh rb
  obtain ⟨ao2, cp2, rfl⟩ := rh.form
  obtain ⟨ao3, cp3, rfl⟩ := rb.form
  refine (seal_ok vk ao2 ao3 cp2 cp3 k num hd bd W rk kb hk h0 h1 hl rh rb bh bb).mono ?_
  rintro e w' ⟨r, rfl, o, b⟩
  exact ⟨r, rfl, row_of_owns o, b⟩
theorem slc_iseal (k : K4) (num : Int) (hd bd : List Int) (kb : k.bytes) (hk : kok k) (h0 : 0 ≤ num) (h1 : num ≤ 4611686018427387903) (hl : hd.length + bd.length ≤ 1500) (bh : Bytes hd) (bb : Bytes bd) : SlC 6 k num hd bd (sealV k num hd bd) 0 := by
  intro W vk vh vb rk rh rb
  obtain ⟨ao2, cp2, rfl⟩ := rh.form
  obtain ⟨ao3, cp3, rfl⟩ := rb.form
  refine (iseal_ok vk ao2 ao3 cp2 cp3 k num hd bd W rk kb hk h0 h1 hl rh rb bh bb).mono ?_
  rintro e w' ⟨r, rfl, o, b⟩
  exact ⟨r, rfl, row_of_owns o, b⟩
theorem slc_open (k : K4) (num : Int) (hd bd : List Int) (kb : k.bytes) (hk : kok k) (h0 : 0 ≤ num) (h1 : num ≤ 4611686018427387903) (hl : hd.length + bd.length ≤ 1500) (bh : Bytes hd) (bb : Bytes bd) : SlC 8 k num hd (sealV k num hd bd) bd 0 := by
  intro W vk vh vb rk rh rb
  obtain ⟨ao2, cp2, rfl⟩ := rh.form
  have hN := sealV_length k num hd bd
  obtain ⟨b, off, cp3, rfl, _⟩ := rb.at (by omega)
  rw [hN] at rb ⊢
  have hc : tagV k.b (nonV k num) hd ((sealV k num hd bd).take bd.length) = (sealV k num hd bd).drop bd.length := by rw [sealV_take, sealV_drop]
  refine (iopen_right vk ao2 cp2 b off bd.length cp3 k num hd _ W rk kb hk h0 h1 hN (by omega) rh rb bh (sealV_bytes _ _ _ _) hc).mono ?_
  rintro e w' ⟨r, rfl, o, b'⟩
  refine ⟨r, rfl, ?_, b'⟩
  have := row_of_owns o
  rwa [sealV_take, overV_back k num bd bb] at this
theorem sle_iopen (k : K4) (num : Int) (hd xs : List Int) (n : Nat) (kb : k.bytes) (hk : kok k) (h0 : 0 ≤ num) (h1 : num ≤ 4611686018427387903) (hN : xs.length = n + 8) (hl : hd.length + (n + 8) ≤ 1508) (bh : Bytes hd) (bx : Bytes xs) : SlE 8 k num hd xs (if tagV k.b (nonV k num) hd (xs.take n) = xs.drop n then 0 else 5) := by
  intro W vk vh vb rk rh rb
  obtain ⟨ao2, cp2, rfl⟩ := rh.form
  obtain ⟨b, off, cp3, rfl, _⟩ := rb.at (by omega)
  rw [hN] at rb ⊢
  by_cases hc : tagV k.b (nonV k num) hd (xs.take n) = xs.drop n
  · rw [if_pos hc]
    refine (iopen_right vk ao2 cp2 b off n cp3 k num hd xs W rk kb hk h0 h1 hN hl rh rb bh bx hc).mono ?_
    rintro e w' ⟨r, rfl, o, b'⟩
    exact ⟨r, rfl, b'⟩
  · rw [if_neg hc]
    refine (iopen_wrong vk ao2 cp2 b off n cp3 k num hd xs W rk kb hk h0 h1 hN hl rh rb bh bx hc).mono ?_
    rintro e w' ⟨r, rfl, o, b'⟩
    exact ⟨r, rfl, b'⟩
theorem sle_sopen (k : K4) (num : Int) (hd xs : List Int) (n : Nat) (kb : k.bytes) (hk : kok k) (h0 : 0 ≤ num) (h1 : num ≤ 4611686018427387903) (hN : xs.length = n + 8) (hl : hd.length + (n + 8) ≤ 1508) (bh : Bytes hd) (bx : Bytes xs) : SlE 11 k num hd xs (if tagV k.b (nonV k num) hd (xs.take n) = xs.drop n then 0 else 5) := by
  intro W vk vh vb rk rh rb
  obtain ⟨ao2, cp2, rfl⟩ := rh.form
  obtain ⟨b, off, cp3, rfl, _⟩ := rb.at (by omega)
  rw [hN] at rb ⊢
  by_cases hc : tagV k.b (nonV k num) hd (xs.take n) = xs.drop n
  · rw [if_pos hc]
    refine (open_right vk ao2 cp2 b off n cp3 k num hd xs W rk kb hk h0 h1 hN hl rh rb bh bx hc).mono ?_
    rintro e w' ⟨r, rfl, o, b'⟩
    exact ⟨r, rfl, b'⟩
  · rw [if_neg hc]
    refine (open_wrong vk ao2 cp2 b off n cp3 k num hd xs W rk kb hk h0 h1 hN hl rh rb bh bx hc).mono ?_
    rintro e w' ⟨r, rfl, o, b'⟩
    exact ⟨r, rfl, b'⟩
/-- What is drawn is bytes. -/
theorem bkV_bytes (xs : List Int) (s : St) (h : Bytes xs) : (bkV xs s).bytes := by
  have hk := keysV_bytes (bysV xs s 16) (bysV_bytes xs s 16 h)
  obtain ⟨ka, kb, kc, kd⟩ := hk
  unfold bkV
  split
  · exact ⟨fun x hx => ka x (List.mem_of_mem_take hx), kb, kc, kd⟩
  · split
    · refine ⟨ka, fun x hx => ?_, kc, kd⟩
      rcases List.mem_append.1 hx with h | h
      · exact kb x h
      · rw [List.mem_singleton.1 h]; decide
    · split
      · exact ⟨ka, kb, fun x hx => kc x (List.mem_of_mem_take hx), kd⟩
      · split
        · exact ⟨ka, kb, kc, bysV_bytes _ _ _ h⟩
        · exact ⟨ka, kb, kc, kd⟩
theorem dsHead_bytes (xs : List Int) (h : Bytes xs) : Bytes (dsHead xs) := bysV_bytes _ _ _ h
theorem dsHead_len (xs : List Int) : (dsHead xs).length = dsN1 xs := bysV_length _ _ _
theorem dsBody_bytes (xs : List Int) (h : Bytes xs) : Bytes (dsBody xs) := by
  unfold dsBody
  split
  · intro x hx
    rw [(List.mem_replicate.1 hx).2]
    decide
  · exact bysV_bytes _ _ _ h
theorem dsBody_len (xs : List Int) (h : xs.length ≤ 1048576) : (dsBody xs).length ≤ 1501 := by
  obtain ⟨hn1, hn2, _⟩ := ds_bounds xs h
  unfold dsBody
  split
  · rw [List.length_replicate]
    have nb := nextV_bd xs 2 (dsS7 xs) (by decide)
    unfold dsBig
    omega
  · rw [bysV_length]; omega
theorem drwC (xs : List Int) (hB : Bytes xs) (hl : xs.length ≤ 1048576) : DrwC xs (bkV xs (dsS0 xs)) (dsNum xs) (dsHead xs) (dsBody xs) := fun W v h => drawSeal v xs W h hB hl
theorem fnSealed_walk (v : Value) (xs : List Int) (len : xs.length ≤ maxLen) (wf : ∀ x ∈ xs, (Lit.int .u8 x).wf = true) (w : World) (row : Row w .u8 v xs) :
    Calls Try.prog 3 #[v] w fun e w' => e = .returned (.bool true) ∧ Below w.heap.size w w' := by
  unfold maxLen at len
  by_cases hl : xs.length ≤ 1048576
  · have hB := bytes_of_wf wf
    have kb := bkV_bytes xs (dsS0 xs) hB
    have bh := dsHead_bytes xs hB
    have bb := dsBody_bytes xs hB
    have lb := dsBody_len xs hl
    have lh := dsHead_len xs
    have n1 := (ds_bounds xs hl).1
    have hD := drwC xs hB hl
    generalize bkV xs (dsS0 xs) = k at kb hD
    generalize dsNum xs = num at hD
    generalize dsHead xs = hd at bh lh hD
    generalize dsBody xs = bd at bb lb hD
    by_cases hk : kok k
    · by_cases hn : num < 0 ∨ 4611686018427387903 < num
      · refine sealed_err v xs k num hd bd 1 w row hl hD ?_ ?_ (by decide)
        · intro W vk vh vb rk rh rb
          refine (seal_badnum vk vh vb k num W rk hk hn).mono ?_
          rintro e w' ⟨r, rfl, o, b⟩
          exact ⟨r, rfl, row_of_owns o, b⟩
        · intro W vk vh vb rk rh rb
          refine (iseal_badnum vk vh vb k num W rk hk hn).mono ?_
          rintro e w' ⟨r, rfl, o, b⟩
          exact ⟨r, rfl, row_of_owns o, b⟩
      · by_cases h15 : 1500 < hd.length + bd.length
        · refine sealed_err v xs k num hd bd 4 w row hl hD ?_ ?_ (by decide)
          · intro W vk vh vb rk rh rb
            obtain ⟨ao2, cp2, rfl⟩ := rh.form
            obtain ⟨ao3, cp3, rfl⟩ := rb.form
            refine (seal_long vk ao2 ao3 _ _ cp2 cp3 k num W rk hk (by omega) (by omega) h15 (by omega) (by omega)).mono ?_
            rintro e w' ⟨r, rfl, o, b⟩
            exact ⟨r, rfl, row_of_owns o, b⟩
          · intro W vk vh vb rk rh rb
            obtain ⟨ao2, cp2, rfl⟩ := rh.form
            obtain ⟨ao3, cp3, rfl⟩ := rb.form
            refine (iseal_long vk ao2 ao3 _ _ cp2 cp3 k num W rk hk (by omega) (by omega) h15 (by omega) (by omega)).mono ?_
            rintro e w' ⟨r, rfl, o, b⟩
            exact ⟨r, rfl, row_of_owns o, b⟩
        · have hN := sealV_length k num hd bd
          have sb := sealV_bytes k num hd bd
          have nkk := nxtK_kok k hk
          have nkb := nxtK_bytes k kb
          refine sealed_ok v xs k (nxtK k) num ((num + 1) % 4611686018427387903) hd bd (sealV k num hd bd) _ _ w row hl hD
            (slc_seal k num hd bd kb hk (by omega) (by omega) (by omega) bh bb) (slc_iseal k num hd bd kb hk (by omega) (by omega) (by omega) bh bb) (slc_open k num hd bd kb hk (by omega) (by omega) (by omega) bh bb) ?_ ?_
            (sle_iopen (nxtK k) num hd _ bd.length nkb nkk (by omega) (by omega) hN (by omega) bh sb) (sle_sopen (nxtK k) num hd _ bd.length nkb nkk (by omega) (by omega) hN (by omega) bh sb)
            (sle_iopen k _ hd _ bd.length kb hk (by omega) (by omega) hN (by omega) bh sb) (sle_sopen k _ hd _ bd.length kb hk (by omega) (by omega) hN (by omega) bh sb)
            (by omega) (by omega) (by omega) (by omega) rfl rfl nkk.1
          · intro W vk rk
            refine (inextKeys_ok vk k W rk kb hk).mono ?_
            rintro e w' ⟨r, rfl, o, b⟩
            exact ⟨r, rfl, KOwns.row o, b⟩
          · intro W vk rk
            refine (nextKeys_ok vk k W rk kb hk).mono ?_
            rintro e w' ⟨r, rfl, o, b⟩
            exact ⟨r, rfl, KOwns.row o, b⟩
    · refine sealed_err v xs k num hd bd 1 w row hl hD ?_ ?_ (by decide)
      · intro W vk vh vb rk rh rb
        refine (seal_badkey vk vh vb k num W rk hk).mono ?_
        rintro e w' ⟨r, rfl, o, b⟩
        exact ⟨r, rfl, row_of_owns o, b⟩
      · intro W vk vh vb rk rh rb
        refine (iseal_badkey vk vh vb k num W rk hk).mono ?_
        rintro e w' ⟨r, rfl, o, b⟩
        exact ⟨r, rfl, row_of_owns o, b⟩
  · obtain ⟨ao, cap, rfl⟩ := row.form
    exact sealed_long ao _ cap w (by omega) (by omega)
end Go.Proofs.Ytoebogcglcaikaa

namespace Go.Proofs.Ytoebogcglcaikaa.fnSealed
open Go.ChangeShapes Go.WideShapes Go.ChangeAt Go.RowKit
set_option linter.unusedVariables false

theorem own : ownKnob Try.prog.godebug = none := by kernel_rfl
theorem laidOut : laidOutB Try.prog = true := by kernel_rfl
theorem cells_b : Try.prog.cellsOf 5 = 1 := by kernel_rfl
set_option maxRecDepth 20000 in
theorem contract (H : Type) (enc : TypeId × Value → H) (W : World) (base : Nat) (args : Array Value) (ds gs : List (DataW H)) (before : List MemPlace)
    (hval : ∀ (j : Nat) t v, Try.f3.params[j]? = some t → args[j]? = some v → Value.okWide Try.prog W .any base t v)
    (hW : DataW.Whole enc Try.prog Try.f3.params.toList Rows.fnSealedSpec.vars false W args.toList ds gs before) :
    Calls Try.prog 3 args W fun e W' => ∃ v, e = .returned v ∧ Rows.fnSealedSpec.post enc Try.prog Try.f3 false true false false W args v W' := by
  have hW' := hW
  obtain ⟨p, q, hA0, hV, rfl, hfz, hnd⟩ := hW
  have hA : DataW.TrodAll enc Try.prog W 0 (fun _ => true) true Try.f3.params.toList args.toList ds p := hA0
  rw [Try.params3] at hA hval
  obtain ⟨v0, vs0, d0, ds0, p0, q0, hargs, rfl, rfl, h0, r0⟩ := trodAll_cons hA
  obtain ⟨rfl, rfl, rfl⟩ := trodAll_nil r0
  obtain rfl : args = #[v0] := by cases args; simp_all
  obtain ⟨rfl, rfl⟩ := trodVars_none hV
  obtain ⟨xs0, row0, len0, wf0⟩ := open_row Try.underlying22 Try.underlying5 cells_b (hval 0 22 v0 rfl rfl) h0
  refine (fnSealed_walk v0 xs0 len0 wf0 W row0).mono fun e W' ⟨he, hb⟩ => ?_
  subst he
  exact ⟨_, rfl, law_post laidOut (by kernel_rfl) (by kernel_rfl) (by kernel_rfl) Try.underlying4 hW' rfl hb⟩

theorem laid_met (os : Os) : laidMet Try.prog Rows.fnSealedRow.laid ((World.holding Try.prog os ⟨#[], #[], []⟩).forCall (fun _ _ => 0) ⟨#[], #[.slice none 0 0], []⟩).memory :=
  laidMet_of_run' 8 (by kernel_rfl) (by kernel_rfl)
theorem reads (os : Os) {H : Type} (enc : TypeId × Value → H) : ∃ places, DataW.whole enc Try.prog ((World.holding Try.prog os ⟨#[], #[], []⟩).forCall (fun _ _ => 0) ⟨#[], #[.slice none 0 0], []⟩).memory Try.f3.params.toList Rows.fnSealedSpec.vars false #[(.slice none 0 0 : Value)].toList 8 = some ([.nil], [], places) :=
  ⟨[], by kernel_rfl⟩

set_option maxRecDepth 100000 in
theorem lifted (os : Os) (started : os.Started) (H : Type) (enc : TypeId × Value → H) (F : Stop.Interp) :
    ReturnsInHanded {} Try.checked os 3 .any ((OpenSpec.ofChange Rows.fnSealedSpec).preRow enc Try.prog Try.f3 Rows.fnSealedRow.domain false Rows.fnSealedRow.laid) (((OpenSpec.ofChange Rows.fnSealedSpec).at F).post enc Try.prog Try.f3 false true false false) := by
  obtain ⟨places, hx⟩ := reads os enc
  refine returnsInHanded_of_row (C := Try.checked) (s := OpenSpec.ofChange Rows.fnSealedSpec) own started (by kernel_rfl) Try.func3
    (witness_row_at (enc := enc) (C := Try.checked) false (World.holding Try.prog os ⟨#[], #[], []⟩) #[.slice none 0 0] rfl (by kernel_rfl) (by kernel_rfl) (by kernel_rfl)
      (OpenSpec.preRow_of_cond 8 hx (by kernel_rfl) (fun k hk => by cases hk) (by kernel_rfl) (laid_met os))) ?_
  intro W base args ds gs before hval hW _ _ _ hL _ _
  exact contract H enc W base args ds gs before hval hW

theorem said : Rows.FnSealedSaid :=
  OpenClaim.holds_of_cond 3 Try.f3 rfl rfl rfl rfl rfl rfl rfl ⟨rfl, rfl, rfl, rfl, rfl⟩ rfl rfl rfl rfl rfl (by kernel_rfl) Try.func3 (by kernel_rfl)
    (of_decide_eq_true (by kernel_rfl)) (by unfold Func.isWrapper; first | (rw [if_pos (by decide +kernel)]; kernel_rfl) | (rw [if_neg (by decide +kernel)]; exact ⟨rfl, rfl⟩))
    (fun os started H enc _ F => by rw [OpenClaim.pre_eq_preRow]; exact lifted os started H enc F)

end Go.Proofs.Ytoebogcglcaikaa.fnSealed

namespace Go.Proofs.Ytoebogcglcaikaa
theorem fnSealed_holds : Rows.FnSealedSaid := fnSealed.said
#print axioms fnSealed_holds
end Go.Proofs.Ytoebogcglcaikaa
