import Derived.Test.YthokfbgpoffafaaGreatDoorRows
import Derived.WalkKit
import Derived.ProofKit
import Derived.OpenShut
import Derived.OpenVars
import Derived.Deep.DeepHandedRow
import Derived.Test.YthokfbgpoffafaaGreatDoorMem
import Derived.Lib.SmallJoins
import Derived.ChangeMaps5
import Derived.Test.YthokfbgpoffafaaGreatDoorKeys
import Derived.Test.YthokfbgpoffafaaGreatDoorOjH
import Derived.Test.YthokfbgpoffafaaGreatDoorOjI
import Derived.Test.YthokfbgpoffafaaGreatDoorCards
import Derived.Test.YthokfbgpoffafaaGreatDoorTie
import Derived.Lib.LaidTab
import Derived.LaidHandle
namespace Go.Proofs.YthokfbgpoffafaaGreatDoor
open Go.ChangeShapes Go.WideShapes Go.ChangeAt Go.RowKit

/-- Each parameter's type can be read, and is a row of the table: one closed fact. -/
def typesRowed (P : Program) (ts : List TypeId) : Bool := ts.all fun t => P.readableRec t && decide (t < P.types.size)

theorem below_trodAll {H : Type} {enc : TypeId × Value → H} {P : Program} (hl : laidOutB P = true) {W W' : World} (hb : Below W.heap.size W W') :
    ∀ {ts : List TypeId} {vs : List Value} {ds : List (DataW H)} {ps : List MemPlace}, typesRowed P ts = true → DataW.TrodAll enc P W 0 (fun _ => true) true ts vs ds ps → (∀ x ∈ ps, x.block < W.heap.size) →
      DataW.TrodAll enc P W' 0 (fun b => decide (b < W.heap.size)) true ts vs ds ps
  | [], [], [], _, _, h, _ => h
  | [], _ :: _, _, _, _, h, _ => h.elim
  | [], [], _ :: _, _, _, h, _ => h.elim
  | _ :: _, [], _, _, _, h, _ => h.elim
  | _ :: _, _ :: _, [], _, _, h, _ => h.elim
  | t :: ts, v :: vs, d :: ds, ps, hr, h, hlt => by
    obtain ⟨p, q, h1, h2, rfl⟩ := h
    simp only [typesRowed, List.all_cons, Bool.and_eq_true, decide_eq_true_eq] at hr
    exact ⟨p, q, Below.trod hl hr.1.1 hr.1.2 h1 hb (fun x hx => hlt x (by simp [hx])), below_trodAll hl hb (by simpa [typesRowed] using hr.2) h2 (fun x hx => hlt x (by simp [hx])), rfl⟩

/-- WHAT A LAW's ROW ASKS, out of 'it returned true, and of what was there before nothing has turned'. -/
theorem law_post {H : Type} {enc : TypeId × Value → H} {P : Program} {f : Func} {s : ChangeSpec} {W W' : World} {args : Array Value} {ds gs : List (DataW H)} {before : List MemPlace} {tb : TypeId}
    (hl : laidOutB P = true) (hp : typesRowed P f.params.toList = true) (hv : varsRowed P s.vars = true) (hr : f.resultTypes = #[tb]) (hu : P.underlying tb = some .bool)
    (hW : DataW.Whole enc P f.params.toList s.vars false W args.toList ds gs before)
    (hs : s.fn H (ds ++ gs) = { results := [.lit (.bool true)], args := ds, vars := gs }) (hb : Below W.heap.size W W') :
    s.post enc P f false true false false W args (.bool true) W' := by
  have hW' := hW
  obtain ⟨p, q, hA, hV, rfl, hfz, hnd⟩ := hW
  have hlt : ∀ x ∈ p ++ q, x.block < W.heap.size := fun x hx => hW'.lt x hx
  refine ⟨ds, gs, p ++ q, [], p, q, hW', ?_, ?_, ?_, hb.frame _, fun h => by cases h⟩
  · rw [hs, hr]
    exact trodAll_mk1 (shut_bool hu _)
  · rw [hs]
    exact below_trodAll hl hb hp hA (fun x hx => hlt x (by simp [hx]))
  · rw [hs]
    exact Below.trodVars hl hb hv hV

theorem cell_ltL {w : World} {b o : Nat} {u : Value} (h : w.cell? ⟨b, o, none⟩ = some u) : b < w.heap.size := by
  refine Nat.lt_of_not_le (fun hn => ?_)
  have e : w.heap[b]? = none := Array.getElem?_eq_none (by omega)
  simp [World.cell?, e] at h

/-- AN ARGUMENT THAT IS A SLICE OF NUMBERS: it reads as some numbers of its kind. -/
theorem open_row {H : Type} {enc : TypeId × Value → H} {P : Program} {W : World} {r : Reach} {base : Nat} {t e : TypeId} {k : IntKind} {v : Value} {d : DataW H} {p : List MemPlace}
    (ht : P.underlying t = some (.slice e)) (he : P.underlying e = some (.int k)) (hc : P.cellsOf e = 1) (hval : Value.okWide P W r base t v) (h : DataW.Trod enc P W 0 (fun _ => true) true t v d p) :
    ∃ xs : List Int, Row W k v xs ∧ xs.length ≤ maxLen ∧ ∀ x ∈ xs, (Lit.int k x).wf = true := by
  obtain ⟨a0, len, cap, rfl⟩ := okWide_slice ht hval
  obtain ⟨fuel, hf⟩ := h
  rcases open_ints ht he hc hf with ⟨hcs, hx⟩ | ⟨a, len', cap', zs, hcs, _, hl, hm, hz, hx, hcell, hwz⟩
  · have : Value.slice a0 len cap = .slice none 0 0 := by simpa [Value.cells] using hcs
    rw [this]
    exact ⟨[], Or.inl ⟨rfl, none, 0, rfl⟩, by simp, by simp⟩
  · have : Value.slice a0 len cap = .slice (some a) len' cap' := by simpa [Value.cells] using hcs
    rw [this]
    have hzl : zs.length = cap' := by simpa using hz
    have htl : (zs.take len').length = len' := by rw [List.length_take]; omega
    refine ⟨zs.take len', ?_, by rw [htl]; omega, fun x hx => hwz x (List.mem_of_mem_take hx)⟩
    by_cases h0 : len' = 0
    · subst h0
      exact Or.inl ⟨by simp, _, _, rfl⟩
    · obtain ⟨b, off, rfl, hcc⟩ := ints_at hcell (by omega)
      refine Or.inr ⟨b, off, cap', by rw [htl], cell_ltL (hcc 0 (by omega)), by rw [htl]; exact ⟨hl, hm⟩, fun j hj => ?_⟩
      rw [htl] at hj
      rw [hcc j (by omega)]
      simp [List.getD, hj]
end Go.Proofs.YthokfbgpoffafaaGreatDoor

namespace Go.Proofs.YthokfbgpoffafaaGreatDoor
open Go.ChangeShapes Go.WideShapes Go.ChangeAt Go.RowKit Go.Joins Go.Deep

/-- A FIELD THAT IS A SLICE OF NUMBERS. -/
theorem open_field {H : Type} {enc : TypeId × Value → H} {P : Program} {W : World} {n : Nat} {t e : TypeId} {k : IntKind} {v : Value} {y : DataW H × List MemPlace}
    (ht : P.underlying t = some (.slice e)) (he : P.underlying e = some (.int k)) (hc : P.cellsOf e = 1) (hf : DataW.trod enc P W 0 (fun _ => true) true n t [v] = some y) :
    ∃ xs : List Int, Row W k v xs ∧ xs.length ≤ maxLen ∧ ∀ x ∈ xs, (Lit.int k x).wf = true := by
  rcases open_ints ht he hc hf with ⟨hcs, hx⟩ | ⟨a, len', cap', zs, hcs, _, hl, hm, hz, hx, hcell, hwz⟩
  · have : v = .slice none 0 0 := by simpa using hcs
    rw [this]
    exact ⟨[], Or.inl ⟨rfl, none, 0, rfl⟩, by simp, by simp⟩
  · have : v = .slice (some a) len' cap' := by simpa using hcs
    rw [this]
    have hzl : zs.length = cap' := by simpa using hz
    have htl : (zs.take len').length = len' := by rw [List.length_take]; omega
    refine ⟨zs.take len', ?_, by rw [htl]; omega, fun x hx => hwz x (List.mem_of_mem_take hx)⟩
    by_cases h0 : len' = 0
    · subst h0
      exact Or.inl ⟨by simp, _, _, rfl⟩
    · obtain ⟨b, off, rfl, hcc⟩ := ints_at hcell (by omega)
      refine Or.inr ⟨b, off, cap', by rw [htl], cell_ltL (hcc 0 (by omega)), by rw [htl]; exact ⟨hl, hm⟩, fun j hj => ?_⟩
      rw [htl] at hj
      rw [hcc j (by omega)]
      simp [List.getD, hj]

/-- A FIELD THAT IS AN INTEGER. -/
theorem open_num {H : Type} {enc : TypeId × Value → H} {P : Program} {W : World} {n : Nat} {t : TypeId} {v : Value} {y : DataW H × List MemPlace} (ht : P.underlying t = some (.int .i64)) (hf : DataW.trod enc P W 0 (fun _ => true) true n t [v] = some y) :
    ∃ a : Int, v = .int .i64 a ∧ (Lit.int .i64 a).wf = true := by
  obtain ⟨a, ha, _, hw⟩ := DataW.trod_int ht hf
  exact ⟨a, by simpa using ha, hw⟩
theorem array8 {α : Type} {cs : Array α} (h : cs.size = 8) : ∃ c0 c1 c2 c3 c4 c5 c6 c7, cs = #[c0, c1, c2, c3, c4, c5, c6, c7] := by
  obtain ⟨l⟩ := cs
  match l, h with
  | [a, b, c, d, e, f, g, i], _ => exact ⟨a, b, c, d, e, f, g, i, rfl⟩
end Go.Proofs.YthokfbgpoffafaaGreatDoor

namespace Go.Proofs.YthokfbgpoffafaaGreatDoor
open Go.ChangeShapes Go.WideShapes Go.ChangeAt Go.RowKit Go.Joins Go.Deep

/-- AN ARGUMENT THAT IS KEYS. -/
theorem open_keys {H : Type} {enc : TypeId × Value → H} {P : Program} {W : World} {r : Reach} {base : Nat} {t ts e : TypeId} {f0 f1 f2 f3 : Field} {v : Value} {d : DataW H} {p : List MemPlace}
    (hs : P.underlying t = some (.struct #[f0, f1, f2, f3])) (hone : oneCellFields P #[f0, f1, f2, f3] = true) (hC : P.cellsOf t = 4) (hf : f0.type = ts ∧ f1.type = ts ∧ f2.type = ts ∧ f3.type = ts)
    (ht : P.underlying ts = some (.slice e)) (he : P.underlying e = some (.int .u8)) (hc : P.cellsOf e = 1) (hval : Value.okWide P W r base t v) (h : DataW.Trod enc P W 0 (fun _ => true) true t v d p) :
    ∃ k : K4, KRow W v k ∧ k.small maxLen ∧ k.bytes := by
  obtain ⟨v0, v1, v2, v3, y0, y1, y2, y3, n, rfl, _, _, h0, h1, h2, h3⟩ := open_agg4 hs hone hC hval h
  rw [hf.1] at h0
  rw [hf.2.1] at h1
  rw [hf.2.2.1] at h2
  rw [hf.2.2.2] at h3
  obtain ⟨x0, r0, l0, b0⟩ := open_field ht he hc h0
  obtain ⟨x1, r1, l1, b1⟩ := open_field ht he hc h1
  obtain ⟨x2, r2, l2, b2⟩ := open_field ht he hc h2
  obtain ⟨x3, r3, l3, b3⟩ := open_field ht he hc h3
  exact ⟨⟨x0, x1, x2, x3⟩, ⟨v0, v1, v2, v3, rfl, r0, r1, r2, r3⟩, ⟨l0, l1, l2, l3⟩, ⟨bytes_of_wf b0, bytes_of_wf b1, bytes_of_wf b2, bytes_of_wf b3⟩⟩
end Go.Proofs.YthokfbgpoffafaaGreatDoor

namespace Go.Proofs.YthokfbgpoffafaaGreatDoor
open Go.RowKit
set_option linter.unusedVariables false

theorem specOp (v bv : Value) (k : K4) (xs : List Int) (cl l : Int) (w : World) (hk : KRow w v k) (kb : k.bytes) (hrow : Row w .u8 bv xs) (hB : Bytes xs) (hm : xs.length ≤ 9223372036854775807) :
    Calls Tryz.prog 5 #[v, bv, .int .i64 cl, .int .i64 l] w fun e w' => OpPost (opR k xs cl l) w e w' := by
  obtain ⟨v0, v1, v2, v3, rfl, r0, r1, r2, r3⟩ := id hk
  obtain ⟨a0, p0, rfl⟩ := r0.form
  obtain ⟨a1, p1, rfl⟩ := r1.form
  obtain ⟨a2, p2, rfl⟩ := r2.form
  obtain ⟨a3, p3, rfl⟩ := r3.form
  obtain ⟨ao, cap, rfl, hlie⟩ := row_lies hrow
  by_cases c1 : 65536 < xs.length
  · have e : opR k xs cl l = (zH, [], 4) := by unfold opR; rw [if_pos c1]
    rw [e]
    exact (opS_long a0 a1 a2 a3 ao p0 p1 p2 p3 _ cap k cl l w c1 hm).mono fun _ _ h => h.post
  have hn : xs.length ≤ 65536 := by omega
  by_cases c2 : kok k
  case neg =>
    have e : opR k xs cl l = (zH, [], 1) := by unfold opR; rw [if_neg c1, if_pos (Or.inl c2)]
    rw [e]
    exact (opS_key a0 a1 a2 a3 ao p0 p1 p2 p3 _ cap k cl l w hn hk c2).mono fun _ _ h => h.post
  by_cases c3 : cl < 0
  · have e : opR k xs cl l = (zH, [], 1) := by unfold opR; rw [if_neg c1, if_pos (Or.inr (Or.inl (by omega)))]
    rw [e]
    exact (opS_cid0 a0 a1 a2 a3 ao p0 p1 p2 p3 _ cap k cl l w hn hk c2 c3).mono fun _ _ h => h.post
  by_cases c3' : 8 < cl
  · have e : opR k xs cl l = (zH, [], 1) := by unfold opR; rw [if_neg c1, if_pos (Or.inr (Or.inl (by omega)))]
    rw [e]
    exact (opS_cid1 a0 a1 a2 a3 ao p0 p1 p2 p3 _ cap k cl l w hn hk c2 c3').mono fun _ _ h => h.post
  have c3 : 0 ≤ cl ∧ cl ≤ 8 := by omega
  by_cases c4 : l < -1
  · have e : opR k xs cl l = (zH, [], 1) := by unfold opR; rw [if_neg c1, if_pos (Or.inr (Or.inr (Or.inl c4)))]
    rw [e]
    exact (opS_low a0 a1 a2 a3 ao p0 p1 p2 p3 _ cap k cl l w hn hk c2 c3 c4).mono fun _ _ h => h.post
  by_cases c5 : 4611686018427387903 < l
  · have e : opR k xs cl l = (zH, [], 1) := by unfold opR; rw [if_neg c1, if_pos (Or.inr (Or.inr (Or.inr c5)))]
    rw [e]
    exact (opS_high a0 a1 a2 a3 ao p0 p1 p2 p3 _ cap k cl l w hn hk c2 c3 c5).mono fun _ _ h => h.post
  have hno : ¬ (¬ kok k ∨ ¬ (0 ≤ cl ∧ cl ≤ 8) ∨ l < -1 ∨ 4611686018427387903 < l) := by
    rintro (h | h | h | h)
    · exact h c2
    · exact h c3
    · exact c4 h
    · exact c5 h
  cases hp : pk xs cl with
  | error c =>
    have e : opR k xs cl l = (zH, [], c) := by unfold opR; rw [if_neg c1, if_neg hno, hp]
    rw [e]
    exact (opS_bad a0 a1 a2 a3 ao p0 p1 p2 p3 _ cap k cl l w xs c hn hk c2 c3 (by omega) (by omega) hlie rfl hB hp).mono fun _ _ h => h.post
  | ok K =>
    obtain ⟨hK, _, h0, h64⟩ := pk_open hp
    obtain ⟨f, v, d, s, t, vers, na, fin⟩ := K
    by_cases hna : na = 0
    · have e : opR k xs cl l = (zH, [], 3) := by unfold opR; rw [if_neg c1, if_neg hno, hp]; exact if_pos hna
      rw [e]
      have hf : f = 3 ∨ f = 5 := by
        rcases hK with ⟨_, h⟩ | ⟨h, _⟩
        · exact h
        · exact absurd hna (by simp only at h; omega)
      rcases hf with rfl | rfl
      · exact (opS_retry a0 a1 a2 a3 ao p0 p1 p2 p3 _ cap k cl l w xs v d s t vers na fin hn hk c2 c3 (by omega) (by omega) hlie rfl hB hp).mono fun _ _ h => h.post
      · exact (opS_vers a0 a1 a2 a3 ao p0 p1 p2 p3 _ cap k cl l w xs v d s t vers na fin hn hk c2 c3 (by omega) (by omega) hlie rfl hB hp).mono fun _ _ h => h.post
    · have e : opR k xs cl l = opT k xs ⟨f, v, d, s, t, vers, na, fin⟩ l := by unfold opR; rw [if_neg c1, if_neg hno, hp]; exact if_neg hna
      rw [e]
      have hK' := hK
      rcases hK with ⟨h, _⟩ | ⟨g1, g2, g3, _⟩
      · exact absurd h hna
      · exact opS_open a0 a1 a2 a3 ao p0 p1 p2 p3 _ cap k cl l w xs f v d s t vers na fin hn hk c2 c3 (by omega) (by omega) hlie rfl hB hp kb g1 g2 g3 h64 hK'
theorem osV_small (k : K4) (num : Int) (hd xs : List Int) : (osV k num hd xs).length ≤ xs.length := by
  unfold osV
  split
  · exact Nat.zero_le _
  · unfold openV
    split
    · rw [overV_length, List.length_take]; omega
    · exact Nat.zero_le _
theorem opR_small (k : K4) (xs : List Int) (cl l : Int) : (opR k xs cl l).1.small 1048576 ∧ (opR k xs cl l).2.1.length ≤ 4194304 := by
  have hz : zH.small 1048576 := by refine ⟨?_, ?_, ?_⟩ <;> simp [zH]
  unfold opR
  split
  · exact ⟨hz, by simp⟩
  · rename_i c1
    split
    · exact ⟨hz, by simp⟩
    · split
      · exact ⟨hz, by simp⟩
      · rename_i K hp
        split
        · exact ⟨hz, by simp⟩
        · have hs := pk_small hp
          unfold opT
          split
          · exact ⟨hz, by simp⟩
          · split
            · exact ⟨hz, by simp⟩
            · split
              · exact ⟨hz, by simp⟩
              · refine ⟨⟨by show K.d.length ≤ _; omega, by show K.s.length ≤ _; omega, by show K.t.length ≤ _; omega⟩, ?_⟩
                have h1 := osV_small k (opNum k xs K.na l) (opHead k xs K.na) (opRest k xs K)
                have h2 : (opRest k xs K).length ≤ xs.length := by unfold opRest; exact sub_le _ _ _
                show (osV k (opNum k xs K.na l) (opHead k xs K.na) (opRest k xs K)).length ≤ _
                omega
theorem fnExactOpenPacket_walk (v0 : Value) (k0 : K4) (v1 : Value) (x1 : List Int) (a2 a3 : Int) (sm0 : k0.small maxLen) (kb0 : k0.bytes) (l1 : x1.length ≤ maxLen) (wf1 : ∀ x ∈ x1, (Lit.int .u8 x).wf = true) (wf2 : (Lit.int .i64 a2).wf = true) (wf3 : (Lit.int .i64 a3).wf = true) (w : World) (row0 : KRow w v0 k0) (row1 : Row w .u8 v1 x1) (ht : T3 w) :
    Calls Tryz.prog 3 #[v0, v1, .int .i64 a2, .int .i64 a3] w fun e w' => e = .returned (.bool true) ∧ Below w.heap.size w w' := by
  have hB : Bytes x1 := bytes_of_wf wf1
  have hm : x1.length ≤ 9223372036854775807 := by have h := l1; unfold maxLen at h; omega
  obtain ⟨z1, z2⟩ := opR_small k0 x1 a2 a3
  exact openPacket_walkOf v0 k0 v1 x1 a2 a3 (opR k0 x1 a2 a3).1 (opR k0 x1 a2 a3).2.1 (opR k0 x1 a2 a3).2.2 w T3 (fun w' hb => ht.below hb ht.lt) sm0 kb0 l1 wf1 wf2 wf3 row0 row1 z1 z2
    (fun w u0 u1 h0 h1 => specOp u0 u1 k0 x1 a2 a3 w h0 kb0 h1 hB hm)
    (fun w u0 u1 hT h0 h1 => implOp u0 u1 k0 x1 a2 a3 w h0 kb0 h1 hB hT hm)
end Go.Proofs.YthokfbgpoffafaaGreatDoor

namespace Go.Proofs.YthokfbgpoffafaaGreatDoor.fnExactOpenPacket
open Go.ChangeShapes Go.WideShapes Go.ChangeAt Go.RowKit
set_option linter.unusedVariables false

theorem own : ownKnob Tryz.prog.godebug = none := by kernel_rfl
theorem laidOut : laidOutB Tryz.prog = true := by kernel_rfl
theorem cells_b : Tryz.prog.cellsOf 5 = 1 := by kernel_rfl
theorem gTab : Tryz.prog.globalNamed "loop.example/g00012/impl.varFormLengths" = some 2 := by kernel_rfl
theorem gTabType : (Tryz.prog.globals[2]?).map (·.type) = some 133 := by kernel_rfl
theorem gLong : Tryz.prog.globalNamed "loop.example/g00012/impl.longForms" = some 1 := by kernel_rfl
theorem gLongType : (Tryz.prog.globals[1]?).map (·.type) = some 133 := by kernel_rfl
theorem cellsArr : Tryz.prog.cellsOf 133 = 4 := by kernel_rfl
theorem cellsInt : Tryz.prog.cellsOf 3 = 1 := by kernel_rfl
theorem et : Tryz.prog.globalNamed "errors.errorType" = some 0 := by kernel_rfl
theorem rt : (Tryz.prog.cutTypes.find? (·.1 == "internal/reflectlite.rtype")).map (·.2) = some 135 := by kernel_rfl
theorem oneRow : ((List.range (Tryz.prog.types.size)).filter fun t => Tryz.prog.rowNamed t [101, 114, 114, 111, 114]) = [55] := by kernel_rfl
theorem laidMet_tail {P : Program} {W : World} {x : String × DataW Unit} {l : List (String × DataW Unit)} (h : laidMet P (x :: l) W) : laidMet P l W := by
  obtain ⟨n, d⟩ := x
  obtain ⟨ps, ⟨g', t', cs, fuel, p, q, hg', ht', hvar, hd, hr, hps⟩, hnd, hall⟩ := h
  subst hps
  exact ⟨q, hr, (List.nodup_append.1 hnd).2.1, fun b off hm => hall b off (List.mem_append_right _ hm)⟩
theorem table {W : World} (h : laidMetH Tryz.prog Rows.fnExactOpenPacketRow.laid W) : T3 W := by
  have h' : laidMet Tryz.prog [("loop.example/g00012/impl.varFormLengths", Lib.tabData .i64 [1, 2, 4, 8]), ("loop.example/g00012/impl.longForms", Lib.tabData .i64 [1, 0, 2, 3])] W ∧ handlesMet Tryz.prog [("errors.errorType", Rows.laid_errors_errorType)] W := h
  have t : Lib.TabIs Tryz.prog W "loop.example/g00012/impl.varFormLengths" .i64 [1, 2, 4, 8] :=
    Lib.tabIs_of_head gTab gTabType Tryz.underlying133 Tryz.underlying3 cellsInt cellsArr h'.1
  have t2 : Lib.TabIs Tryz.prog W "loop.example/g00012/impl.longForms" .i64 [1, 0, 2, 3] :=
    Lib.tabIs_of_head gLong gLongType Tryz.underlying133 Tryz.underlying3 cellsInt cellsArr (laidMet_tail h'.1)
  refine ⟨⟨t.cell gTab 0 (by decide), t.cell gTab 1 (by decide), t.cell gTab 2 (by decide), t.cell gTab 3 (by decide)⟩, ⟨t2.cell gLong 0 (by decide), t2.cell gLong 1 (by decide), t2.cell gLong 2 (by decide), t2.cell gLong 3 (by decide)⟩, ?_⟩
  obtain ⟨name, u, ty, e1, e2, e3, e4, e5⟩ := h'.2 _ (List.mem_singleton.2 rfl)
  have en : name = [101, 114, 114, 111, 114] := (Option.some.inj e1).symm
  subst en
  obtain rfl := Option.some.inj (rt.symm.trans e2)
  have hm : ty ∈ (List.range (Tryz.prog.types.size)).filter fun t => Tryz.prog.rowNamed t [101, 114, 114, 111, 114] := List.mem_filter.2 ⟨List.mem_range.2 e3, e4⟩
  rw [oneRow] at hm
  obtain rfl := List.mem_singleton.1 hm
  have hh : typeHandle Tryz.prog 55 = .pointer (some ⟨3, 55, none⟩) := by kernel_rfl
  rw [hh] at e5
  unfold errT
  simpa using World.var?_cell et e5 0
theorem trodVars_two {H : Type} {enc : TypeId × Value → H} {P : Program} {w : World} {spare : Nat → Bool} {n1 n2 : String} {gs : List (DataW H)} {ps : List MemPlace} (h : DataW.TrodVars enc P w spare [n1, n2] gs ps) : ∃ d1 d2, gs = [d1, d2] := by
  cases gs with
  | nil => simp [DataW.TrodVars] at h
  | cons d ds =>
    cases ds with
    | nil => simp [DataW.TrodVars] at h
    | cons d2 ds2 =>
      cases ds2 with
      | nil => exact ⟨d, d2, rfl⟩
      | cons d3 ds3 => simp [DataW.TrodVars] at h

set_option maxRecDepth 20000 in
theorem contract (H : Type) (enc : TypeId × Value → H) (W : World) (base : Nat) (args : Array Value) (ds gs : List (DataW H)) (before : List MemPlace)
    (hval : ∀ (j : Nat) t v, Tryz.f3.params[j]? = some t → args[j]? = some v → Value.okWide Tryz.prog W .any base t v)
    (hW : DataW.Whole enc Tryz.prog Tryz.f3.params.toList Rows.fnExactOpenPacketSpec.vars false W args.toList ds gs before) (hL : laidMetH Tryz.prog Rows.fnExactOpenPacketRow.laid W) :
    Calls Tryz.prog 3 args W fun e W' => ∃ v, e = .returned v ∧ Rows.fnExactOpenPacketSpec.post enc Tryz.prog Tryz.f3 false true false false W args v W' := by
  have hW' := hW
  obtain ⟨p, q, hA0, hV, rfl, hfz, hnd⟩ := hW
  have hA : DataW.TrodAll enc Tryz.prog W 0 (fun _ => true) true Tryz.f3.params.toList args.toList ds p := hA0
  rw [Tryz.params3] at hA hval
  obtain ⟨v0, vs0, d0, ds0, p0, q0, hargs, rfl, rfl, h0, r0⟩ := trodAll_cons hA
  obtain ⟨v1, vs1, d1, ds1, p1, q1, rfl, rfl, rfl, h1, r1⟩ := trodAll_cons r0
  obtain ⟨v2, vs2, d2, ds2, p2, q2, rfl, rfl, rfl, h2, r2⟩ := trodAll_cons r1
  obtain ⟨v3, vs3, d3, ds3, p3, q3, rfl, rfl, rfl, h3, r3⟩ := trodAll_cons r2
  obtain ⟨rfl, rfl, rfl⟩ := trodAll_nil r3
  obtain rfl : args = #[v0, v1, v2, v3] := by cases args; simp_all
  obtain ⟨g1, g2, rfl⟩ := trodVars_two hV
  obtain ⟨k0, row0, sm0, kb0⟩ := open_keys Tryz.underlying24 (by kernel_rfl) (by kernel_rfl) ⟨rfl, rfl, rfl, rfl⟩ Tryz.underlying22 Tryz.underlying5 cells_b (hval 0 24 v0 rfl rfl) h0
  obtain ⟨xs1, row1, len1, wf1⟩ := open_row Tryz.underlying22 Tryz.underlying5 cells_b (hval 1 22 v1 rfl rfl) h1
  obtain ⟨a2, rfl, rfl, rfl, w2⟩ := open_int Tryz.underlying3 (hval 2 3 v2 rfl rfl) h2
  obtain ⟨a3, rfl, rfl, rfl, w3⟩ := open_int Tryz.underlying3 (hval 3 3 v3 rfl rfl) h3
  refine (fnExactOpenPacket_walk v0 k0 v1 xs1 a2 a3 sm0 kb0 len1 wf1 w2 w3 W row0 row1 (table hL)).mono fun e W' ⟨he, hb⟩ => ?_
  subst he
  exact ⟨_, rfl, law_post laidOut (by kernel_rfl) (by kernel_rfl) (by kernel_rfl) Tryz.underlying4 hW' rfl hb⟩

theorem laid_met (os : Os) : laidMetH Tryz.prog Rows.fnExactOpenPacketRow.laid (({ (World.holding Tryz.prog os ⟨#[], #[], []⟩) with heap := (((World.holding Tryz.prog os ⟨#[], #[], []⟩).heap.modify 0 fun | .cells _ t frozen => .cells #[.iface 135 (.agg #[.pointer (some ⟨3, 55, none⟩)])] t frozen | o => o).modify 1 fun | .cells _ t frozen => .cells #[.int .i64 1, .int .i64 0, .int .i64 2, .int .i64 3] t frozen | o => o).modify 2 fun | .cells _ t frozen => .cells #[.int .i64 1, .int .i64 2, .int .i64 4, .int .i64 8] t frozen | o => o } : World).forCall (fun _ _ => 0) ⟨#[], #[.agg #[.slice none 0 0, .slice none 0 0, .slice none 0 0, .slice none 0 0], .slice none 0 0, .int .i64 0, .int .i64 0], []⟩).memory :=
  laidMetH_of_parts (laidMet_of_run' 8 (by kernel_rfl) (by kernel_rfl)) (by kernel_rfl)
theorem reads (os : Os) {H : Type} (enc : TypeId × Value → H) : ∃ places, DataW.whole enc Tryz.prog (({ (World.holding Tryz.prog os ⟨#[], #[], []⟩) with heap := (((World.holding Tryz.prog os ⟨#[], #[], []⟩).heap.modify 0 fun | .cells _ t frozen => .cells #[.iface 135 (.agg #[.pointer (some ⟨3, 55, none⟩)])] t frozen | o => o).modify 1 fun | .cells _ t frozen => .cells #[.int .i64 1, .int .i64 0, .int .i64 2, .int .i64 3] t frozen | o => o).modify 2 fun | .cells _ t frozen => .cells #[.int .i64 1, .int .i64 2, .int .i64 4, .int .i64 8] t frozen | o => o } : World).forCall (fun _ _ => 0) ⟨#[], #[.agg #[.slice none 0 0, .slice none 0 0, .slice none 0 0, .slice none 0 0], .slice none 0 0, .int .i64 0, .int .i64 0], []⟩).memory Tryz.f3.params.toList Rows.fnExactOpenPacketSpec.vars false #[(.agg #[.slice none 0 0, .slice none 0 0, .slice none 0 0, .slice none 0 0] : Value), .slice none 0 0, .int .i64 0, .int .i64 0].toList 8 = some ([.agg [.nil, .nil, .nil, .nil], .nil, .lit (.int .i64 0), .lit (.int .i64 0)], [.agg [.lit (.int .i64 1), .lit (.int .i64 0), .lit (.int .i64 2), .lit (.int .i64 3)], .agg [.lit (.int .i64 1), .lit (.int .i64 2), .lit (.int .i64 4), .lit (.int .i64 8)]], places) :=
  ⟨[.cell 1 0, .cell 1 1, .cell 1 2, .cell 1 3, .cell 2 0, .cell 2 1, .cell 2 2, .cell 2 3], by kernel_rfl⟩

set_option maxRecDepth 100000 in
theorem lifted (os : Os) (started : os.Started) (H : Type) (enc : TypeId × Value → H) (F : Stop.Interp) :
    ReturnsInHanded {} Tryz.checked os 3 .any ((OpenSpec.ofChange Rows.fnExactOpenPacketSpec).preRow enc Tryz.prog Tryz.f3 Rows.fnExactOpenPacketRow.domain false Rows.fnExactOpenPacketRow.laid) (((OpenSpec.ofChange Rows.fnExactOpenPacketSpec).at F).post enc Tryz.prog Tryz.f3 false true false false) := by
  obtain ⟨places, hx⟩ := reads os enc
  refine returnsInHanded_of_row (C := Tryz.checked) (s := OpenSpec.ofChange Rows.fnExactOpenPacketSpec) own started (by kernel_rfl) Tryz.func3
    (witness_row_at (enc := enc) (C := Tryz.checked) false ({ (World.holding Tryz.prog os ⟨#[], #[], []⟩) with heap := (((World.holding Tryz.prog os ⟨#[], #[], []⟩).heap.modify 0 fun | .cells _ t frozen => .cells #[.iface 135 (.agg #[.pointer (some ⟨3, 55, none⟩)])] t frozen | o => o).modify 1 fun | .cells _ t frozen => .cells #[.int .i64 1, .int .i64 0, .int .i64 2, .int .i64 3] t frozen | o => o).modify 2 fun | .cells _ t frozen => .cells #[.int .i64 1, .int .i64 2, .int .i64 4, .int .i64 8] t frozen | o => o } : World) #[.agg #[.slice none 0 0, .slice none 0 0, .slice none 0 0, .slice none 0 0], .slice none 0 0, .int .i64 0, .int .i64 0] rfl (by kernel_rfl) (by kernel_rfl) (by kernel_rfl)
      (OpenSpec.preRow_of_cond 8 hx (by kernel_rfl) (fun k hk => by cases hk) (by kernel_rfl) (laid_met os))) ?_
  intro W base args ds gs before hval hW _ _ _ hL _ _
  exact contract H enc W base args ds gs before hval hW hL

theorem said : Rows.FnExactOpenPacketSaid :=
  OpenClaim.holds_of_cond 3 Tryz.f3 rfl rfl rfl rfl rfl rfl rfl ⟨rfl, rfl, rfl, rfl, rfl⟩ rfl rfl rfl rfl rfl (by kernel_rfl) Tryz.func3 (by kernel_rfl)
    (of_decide_eq_true (by kernel_rfl)) (by unfold Func.isWrapper; first | (rw [if_pos (by decide +kernel)]; kernel_rfl) | (rw [if_neg (by decide +kernel)]; exact ⟨rfl, rfl⟩))
    (fun os started H enc _ F => by rw [OpenClaim.pre_eq_preRow]; exact lifted os started H enc F)

theorem plain (f : FuncId) (fn : Func) (hf : Tryz.pinned.checked.prog.funcNamed "loop.example/g00012/laws.FnExactOpenPacket" = some f) (hfn : Tryz.pinned.checked.prog.funcs[f]? = some fn) :
    true = Tryz.pinned.checked.prog.looks [] ∧ ∀ (j : Nat) t, fn.params[j]? = some t → Tryz.pinned.checked.prog.wantsStandIn t = false := by
  obtain rfl : f = 3 := Option.some.inj ((show Tryz.prog.funcNamed "loop.example/g00012/laws.FnExactOpenPacket" = some 3 by kernel_rfl).symm.trans hf) |>.symm
  obtain rfl : fn = Tryz.f3 := (Option.some.inj (Tryz.func3.symm.trans hfn)).symm
  refine ⟨by kernel_rfl, fun j t ht => ?_⟩
  rw [Tryz.params3] at ht
  have hm : t ∈ [24, 22, 3, 3] := by simpa using Array.mem_of_getElem? ht
  have hall : ([24, 22, 3, 3].all fun u => !Tryz.prog.wantsStandIn u) = true := by kernel_rfl
  exact (show Tryz.prog.wantsStandIn t = false by simpa using List.all_eq_true.1 hall t hm)

end Go.Proofs.YthokfbgpoffafaaGreatDoor.fnExactOpenPacket

namespace Go.Proofs.YthokfbgpoffafaaGreatDoor
theorem fnExactOpenPacket_holds : Rows.FnExactOpenPacketCardSaid :=
  Claim7.holds_tied_plain_at .later [] _ _ _ _ fnExactOpenPacket.said (fun _ h => by cases h) (by kernel_rfl) (fun _ h => by cases h) fnExactOpenPacket_row_tie rfl ⟨rfl, rfl⟩ (by kernel_rfl) rfl fnExactOpenPacket.plain (by kernel_rfl)
#print axioms fnExactOpenPacket_holds
end Go.Proofs.YthokfbgpoffafaaGreatDoor
