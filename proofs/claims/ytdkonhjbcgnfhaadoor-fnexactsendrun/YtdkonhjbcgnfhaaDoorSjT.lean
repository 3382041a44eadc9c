import Derived.Test.YtdkonhjbcgnfhaaDoorSjS
import Derived.Test.YtdkonhjbcgnfhaaDoorSendRunLaw
import Derived.Deep.LoopGhost
import Derived.Test.YtdkonhjbcgnfhaaDoorCards
import Derived.Test.YtdkonhjbcgnfhaaDoorTie
import Derived.Test.YtdkonhjbcgnfhaaDoorLiftW
import Derived.Lib.LaidTab
namespace Go.Proofs.YtdkonhjbcgnfhaaDoor
open Go.RowKit
set_option linter.unusedVariables false
set_option linter.unusedSimpArgs false

/-- 'append(own, x)' of an observation. -/
theorem wpList_append7 {w : World} {ops : Array Oper} {rest : List Oper} {o : Oper} {a : Act} {Q : Exit → Act → World → Prop} (hgd : o.guard = none) (p q : Operand)
    (ho : o.op = .call { callee := .builtin .append, args := #[p, q], argTypes := #[24, 24] })
    (base : Nat) (v : Value) (n : Nat) (ys : List Value) (hp : a.eval p = v) (hown : w.ownsRow base 43 7 v n ys) (g : Nat) (x0 x1 x2 x3 x4 x5 x6 : Value) (hx : x0.oneCell' = true ∧ x1.oneCell' = true ∧ x2.oneCell' = true ∧ x3.oneCell' = true ∧ x4.oneCell' = true ∧ x5.oneCell' = true ∧ x6.oneCell' = true)
    (hq : a.eval q = .slice (some ⟨g, 0, none⟩) 1 1) (hc : w.heap[g]? = some (.cells #[x0, x1, x2, x3, x4, x5, x6] 43 (0, 0))) (h63 : n + 1 ≤ 1099511627776) (hbase : base ≤ w.heap.size)
    (h : ∀ v' w', w'.ownsRow base 43 7 v' (n + 1) (ys ++ [x0, x1, x2, x3, x4, x5, x6]) → w.grownBy w' v.ownBlock → (v'.ownBlock = v.ownBlock ∨ v'.ownBlock = some w.heap.size) → wpList Tryd.prog ops Q rest (a.put o.dst v') w') :
    wpList Tryd.prog ops Q (o :: rest) a w := by
  obtain ⟨i0, hi, hz0, hz1, hz2⟩ := info_parts infoSendObs
  refine wpList_append_own_at w hgd p q 24 ho base 43 i0 _ 7 56 Tryd.underlying24 hi hz0 hz1 hz2 rfl (by decide) v n ys hp hown ⟨g, 0, none⟩ 1 1 [x0, x1, x2, x3, x4, x5, x6] hq rfl ?_ ?_ (by unfold maxLen; omega) (by omega) hbase ?_
  · intro j u hj
    rw [Go.WideShapes.add_plain]
    have e := bk_cell hc (0 + j)
    rw [e, Nat.zero_add]
    have hl : j < 7 := by have := (List.getElem?_eq_some_iff.1 hj).1; simpa using this
    rw [← hj]
    obtain rfl | rfl | rfl | rfl | rfl | rfl | rfl : j = 0 ∨ j = 1 ∨ j = 2 ∨ j = 3 ∨ j = 4 ∨ j = 5 ∨ j = 6 := by omega
    all_goals rfl
  · intro u hu
    simp only [List.mem_cons, List.not_mem_nil, or_false] at hu
    obtain ⟨a0, a1, a2, a3, a4, a5, a6⟩ := hx
    rcases hu with rfl | rfl | rfl | rfl | rfl | rfl | rfl <;> assumption
  · intro v' w' ho' hg _ hat
    exact h v' w' ho' hg hat
/-- Behind k operations. -/
structure SpQ (g : Nat) (R : List SSendOp) (w wr : World) (k : Nat) (zs : List Value) (U : Nat → Value) (ro : Value) (D : Nat → Prop) : Prop where
  zl : zs.length = k * 7
  ow : wr.ownsRow w.heap.size 43 7 ro k zs
  cs : ∀ j, j < k → ∀ f, f < 7 → zs[j * 7 + f]? = ((sstep (srun R j).1 (R.getD j default)).2.c (U j))[f]?
  inn : ∀ j, j < k → wr.ownsRow w.heap.size 5 1 (U j) (sstep (srun R j).1 (R.getD j default)).2.d.length ((sstep (srun R j).1 (R.getD j default)).2.d.map (Value.int .u8))
  ap : ∀ (i j : Nat), i < j → j < k → ∀ t, (U j).ownBlock = some t → some t ≠ (U i).ownBlock
  rep : QRep wr D g w.heap.size (srun R k).1
  dr : ∀ t, ro.ownBlock = some t → ¬ D t
  du : ∀ j, j < k → ∀ t, (U j).ownBlock = some t → ¬ D t
  db : ∀ t, D t → w.heap.size ≤ t
  bw : Below w.heap.size w wr
def SpQI (g : Nat) (R : List SSendOp) (w wr : World) (k : Nat) (ro : Value) : Prop := ∃ zs U D, SpQ g R w wr k zs U ro D
/-- One round: from the part behind its step, and the observation appended. -/
theorem SpQ.next {g k : Nat} {R : List SSendOp} {w wr w3 w6 : World} {zs : List Value} {U : Nat → Value} {ro ro' r : Value} {D D' : Nat → Prop} (h : SpQ g R w wr k zs U ro D)
    (st : SS × SSendObs) (est : st = sstep (srun R k).1 (R.getD k default))
    (c3 : Chg D wr w3) (hD' : ∀ t, D' t → D t ∨ (wr.heap.size ≤ t ∧ t < w3.heap.size)) (rep3 : QRep w3 D' g w.heap.size st.1) (or3 : w3.ownsRow wr.heap.size 5 1 r st.2.d.length (st.2.d.map (Value.int .u8))) (hrD : ∀ t, r.ownBlock = some t → ¬ D' t)
    (c6 : Chg (fun t => some t = ro.ownBlock) w3 w6) (o6 : w6.ownsRow w.heap.size 43 7 ro' (k + 1) (zs ++ st.2.c r)) (a6 : ro'.ownBlock = ro.ownBlock ∨ ∃ t, ro'.ownBlock = some t ∧ w3.heap.size ≤ t) :
    SpQ g R w w6 (k + 1) (zs ++ st.2.c r) (fun j => if j = k then r else U j) ro' D' := by
  have hb := h.bw.size
  have hz3 := c3.size
  have frow : ∀ t, D' t → w.heap.size ≤ t := fun t ht => (hD' t ht).elim (h.db t) (fun x => by omega)
  have roD' : ∀ t, ro.ownBlock = some t → ¬ D' t := fun t ht e => (hD' t e).elim (h.dr t ht) (fun x => by have := (h.ow.lt t ht).2; omega)
  have c6D : ∀ t, D' t → ¬ (some t = ro.ownBlock) := fun t ht e => roD' t e.symm ht
  have innw : ∀ j, j < k → w6.ownsRow w.heap.size 5 1 (U j) (sstep (srun R j).1 (R.getD j default)).2.d.length ((sstep (srun R j).1 (R.getD j default)).2.d.map (Value.int .u8)) := fun j hj => ownsChg c6 (ownsChg c3 (h.inn j hj) (fun t ht => h.du j hj t ht)) (fun t ht e => own_two (by decide) (h.inn j hj) h.ow t ht e)
  have r6 : w6.ownsRow wr.heap.size 5 1 r st.2.d.length (st.2.d.map (Value.int .u8)) := ownsChg c6 or3 (fun t ht e => by have h1 := (or3.lt t ht).1; have h2 := (h.ow.lt t e.symm).2; omega)
  have e1 : (srun R (k + 1)).1 = st.1 := by rw [est]; rfl
  refine ⟨by rw [List.length_append, h.zl]; simp [SSendObs.c]; omega, o6, fun j hj f hf => ?_, fun j hj => ?_, fun i j hij hj t ht => ?_, ?_, fun t ht => ?_, fun j hj t ht => ?_, frow, ?_⟩
  · by_cases e : j = k
    · subst e
      rw [if_pos rfl, ← est, List.getElem?_append_right (by rw [h.zl]; omega), h.zl, Nat.add_sub_cancel_left]
    · rw [if_neg e, List.getElem?_append_left (by rw [h.zl]; exact jK_lt (by omega) hf)]
      exact h.cs j (by omega) f hf
  · by_cases e : j = k
    · rw [if_pos e, e, ← est]; exact owns_mono r6 hb
    · rw [if_neg e]; exact innw j (by omega)
  · by_cases e : j = k
    · subst e
      rw [if_pos rfl] at ht
      rw [if_neg (by omega)]
      intro e2
      have a1 := ((h.inn i hij).lt t e2.symm).2
      have a2 := (or3.lt t ht).1
      omega
    · rw [if_neg e] at ht
      rw [if_neg (by omega)]
      exact h.ap i j hij (by omega) t ht
  · rw [e1]; exact rep3.chgS c6 c6D
  · rcases a6 with e | ⟨t', e, ht'⟩
    · exact roD' t (by rw [← e]; exact ht)
    · have e4 : t = t' := Option.some.inj (ht.symm.trans e)
      intro hd
      have := rep3.ltQ t hd
      omega
  · by_cases e : j = k
    · rw [if_pos e] at ht; exact hrD t ht
    · rw [if_neg e] at ht
      intro hd
      rcases hD' t hd with x | x
      · exact h.du j (by omega) t ht x
      · have := ((h.inn j (by omega)).lt t ht).2; omega
  · have B1 : Below w.heap.size wr w3 := ⟨c3.os, c3.tape, c3.output, c3.size, fun t ht => c3.block t (by omega) (fun e => by have := h.db t e; omega)⟩
    have B2 : Below w.heap.size w3 w6 := ⟨c6.os, c6.tape, c6.output, c6.size, fun t ht => c6.block t (by omega) (fun e => by have := (h.ow.lt t e.symm).1; omega)⟩
    exact (h.bw.trans B1).trans B2
theorem lit7 (w : World) (x0 x1 x2 x3 x4 x5 x6 : Value) (t : TypeId) : (w.alloc (.cells #[x0, x1, x2, x3, x4, x5, x6] t)).heap[w.heap.size]? = some (.cells #[x0, x1, x2, x3, x4, x5, x6] t (0, 0)) := heap_alloc_new w _
theorem BOwns.lit0S {α : Type} [Inhabited α] (T : TypeId) (K : Nat) (hK : 0 < K) (c : α → Value → List Value) (d : α → List Int) (w : World) (base : Nat) (hb : base ≤ w.heap.size) : BOwns T K c d (w.alloc (.cells #[] T)) base (.slice (some ⟨w.heap.size, 0, none⟩) 0 0) [] :=
  ⟨fun _ => .slice none 0 0, ⟨[], World.ownsRow_lit _ #[] 0 hb (Nat.zero_le _) (by simp), fun j hj => by simp [zl] at hj⟩, fun j hj => by simp at hj, fun i j _ hj => by simp at hj⟩
set_option maxRecDepth 20000 in
set_option maxHeartbeats 8000000 in
theorem specLoopS (v : Value) (R : List SSendOp) (w : World) (row : BRow 5 SSendOp.c SSendOp.d w v R) (hn : R.length ≤ 400)
    (hd : ∀ j, j < R.length → (R.getD j default).d.length ≤ 1048576) (h1 : ∀ j, j < R.length → (R.getD j default).f1 ≤ 9223372036854775807) (h2 : ∀ j, j < R.length → (R.getD j default).f2 ≤ 9223372036854775807) :
    Calls Tryd.prog 5 #[v] w fun e w' => ∃ r, e = .returned (.tuple #[r, .int .i64 0]) ∧ BOwns 43 7 SSendObs.c SSendObs.d w' w.heap.size r (srun R R.length).2 ∧ Below w.heap.size w w' := by
  obtain ⟨ao, cp, ev⟩ := row.form
  obtain ⟨n, en⟩ : ∃ n, n = R.length := ⟨_, rfl⟩
  have HH : Hid _ := And.intro row (And.intro hd (And.intro h1 (And.intro h2 en)))
  rw [← en] at hn ev ⊢
  subst ev
  clear row hd h1 h2 en
  have hnI : (n : Int) ≤ 400 := by omega
  go_enter Tryd.func5, Tryd.ntmps5
  go_wp2_with fail
  go_loopg [5, 6] n (fun q ro i wr => ∃ k : Nat, k ≤ n ∧ q = n - k ∧ i = .int .i64 (k : Int) ∧ SpQI w.heap.size R w wr k ro)
  case atStart =>
    have e2 := bk_new2 w (.cells #[.int .i64 0, .int .i64 0, .int .i64 0, .int .i64 0, .bool false, .slice none 0 0, .slice none 0 0] 41) (.cells #[] 43)
    have B2 : Below w.heap.size w ((w.alloc (.cells #[.int .i64 0, .int .i64 0, .int .i64 0, .int .i64 0, .bool false, .slice none 0 0, .slice none 0 0] 41)).alloc (.cells #[] 43)) := ((Below.refl _ _).alloc (Nat.le_refl _) _).alloc (by simp) _
    refine ⟨0, by omega, by omega, rfl, [], fun _ => .slice none 0 0, fun t => t = w.heap.size, ⟨rfl, ?_, fun j hj => by omega, fun j hj => by omega, fun i j _ hj => by omega, ⟨.slice none 0 0, .slice none 0 0, e2.1, ⟨World.ownsRow_nil _ _ _ _, World.ownsRow_nil _ _ _ _, rfl, fun t ht => (by cases ht), fun t ht => (by cases ht), fun t ht => ?_, Nat.le_refl _⟩⟩, fun t ht => ?_, fun j hj => by omega, fun t ht => by rw [ht]; exact Nat.le_refl _, B2⟩⟩
    · have := World.ownsRow_lit (e := 43) (size := 7) (w.alloc (.cells #[.int .i64 0, .int .i64 0, .int .i64 0, .int .i64 0, .bool false, .slice none 0 0, .slice none 0 0] 41)) #[] 0 (base := w.heap.size) (by simp) (Nat.zero_le _) (by simp)
      simpa using this
    · rw [ht]; simp; omega
    · simp [Value.ownBlock] at ht; omega
  case round =>
    obtain ⟨k, hk, hq, rfl, zs, U, D, SJ⟩ := hrel
    by_cases hlt : k < n
    · obtain ⟨b, off, cap, ev, hbl, U0, hc, hr⟩ := HH.out.1.at' (by have := HH.out.2.2.2.2; omega)
      simp only [Value.slice.injEq] at ev
      obtain ⟨rfl, em2, rfl⟩ := ev
      clear em2
      have e0 := HH.out.2.2.2.2
      have hck := hc k (by omega)
      have hrk := (hr k (by omega)).below SJ.bw
      obtain ⟨uk, euk⟩ : ∃ u, u = U0 k := ⟨_, rfl⟩
      rw [← euk] at hck hrk
      obtain ⟨ua, uc, eu⟩ := hrk.form
      obtain ⟨un, eun⟩ : ∃ un, un = (R.getD k default).d.length := ⟨_, rfl⟩
      rw [← eun] at eu
      subst eu
      obtain ⟨o, eo⟩ : ∃ o, o = R.getD k default := ⟨_, rfl⟩
      have hdk := HH.out.2.1 k (by omega)
      have h1k := HH.out.2.2.1 k (by omega)
      have h2k := HH.out.2.2.2.1 k (by omega)
      rw [← eo] at hck hrk hdk h1k h2k
      obtain ⟨ra, rc', er⟩ := own_form SJ.ow
      have hbw := SJ.bw.size
      have hbr : b < wr.heap.size := by omega
      have c0 : wr.cell? ⟨b, off + k * 5, none⟩ = some (.int .i64 o.f0) := (SJ.bw.cell (p := ⟨b, off + (k * 5 + 0), none⟩) hbl).trans (hck 0 (by omega))
      have c1 : wr.cell? ⟨b, off + k * 5 + 1, none⟩ = some (.int .i64 o.f1) := (SJ.bw.cell (p := ⟨b, off + (k * 5 + 1), none⟩) hbl).trans (hck 1 (by omega))
      have c2 : wr.cell? ⟨b, off + k * 5 + 2, none⟩ = some (.int .i64 o.f2) := (SJ.bw.cell (p := ⟨b, off + (k * 5 + 2), none⟩) hbl).trans (hck 2 (by omega))
      have c3 : wr.cell? ⟨b, off + k * 5 + 3, none⟩ = some (.slice ua un uc) := (SJ.bw.cell (p := ⟨b, off + (k * 5 + 3), none⟩) hbl).trans (hck 3 (by omega))
      have c4 : wr.cell? ⟨b, off + k * 5 + 4, none⟩ = some (.bool o.f4) := (SJ.bw.cell (p := ⟨b, off + (k * 5 + 4), none⟩) hbl).trans (hck 4 (by omega))
      have hcr := srun_cr R (fun j hj => HH.out.2.2.2.1 j hj) k (by omega)
      have C := doM w.heap.size w.heap.size (srun R k).1 o ua un uc D wr (srun_SI R k) hcr SJ.rep hrk hdk h1k h2k hbw
      obtain ⟨ST, eST⟩ : ∃ ST, ST = sstep (srun R k).1 o := ⟨_, rfl⟩
      rw [← eST] at C
      rw [eo] at eST
      have hgr : w.heap.size < wr.heap.size := SJ.rep.ltQ _ SJ.rep.dgQ
      have H4 : Hid _ := And.intro SJ (And.intro C eST)
      clear SJ C eST hdk h1k h2k hck hrk hc hr euk eo eun e0 hcr
      subst er
      obtain ⟨x0, x1, x2, x3, x4⟩ := o
      dsimp only at *
      go_wp2_with (first
        | (go_at_call 14; refine H4.out.2.1.mono ?_; rintro e w3 ⟨r, rfl, o3, l3, c3⟩; obtain ⟨D1, r3, hD1, hrD⟩ := l3; have oz := ownsChg c3 H4.out.1.ow (fun t ht => H4.out.1.dr t ht); obtain ⟨ra3, rc3, er3⟩ := own_form o3; obtain ⟨n3, en3⟩ : ∃ n3, n3 = ST.2.f3.length := ⟨_, rfl⟩; rw [← en3] at er3; subst er3; have hz3 := c3.size; have H3 : Hid _ := And.intro o3 (And.intro r3 (And.intro hD1 (And.intro hrD (And.intro c3 oz)))); clear o3 r3 hD1 hrD c3 oz en3)
        | (at_builtin; refine wpList_append7 rfl (.tmp 20) (.tmp 27) rfl w.heap.size (.slice ra k rc') k zs rfl (owns_below H3.out.2.2.2.2.2 ((Below.refl _ _).alloc (Nat.le_refl _) _)) w3.heap.size (.int .i64 ST.2.f0) (.int .i64 ST.2.f1) (.int .i64 ST.2.f2) (.slice ra3 n3 rc3) (.bool ST.2.f4) (.bool ST.2.f5) (.bool ST.2.f6) ⟨rfl, rfl, rfl, rfl, rfl, rfl, rfl⟩ rfl (lit7 w3 _ _ _ _ _ _ _ _) (by omega) (by simp; omega) ?_; intro v6 w6 o6 g6 a6; obtain ⟨ra6, rc6, er6⟩ := own_form o6; have H6 : Hid _ := And.intro o6 (And.intro (grown_chg g6) a6); clear o6 g6 a6; subst er6))
      go_roundg (n - (k + 1))
      case measure => omega
      case rel =>
        have sz : w3.heap.size ≤ (w3.alloc (.cells #[.int .i64 ST.2.f0, .int .i64 ST.2.f1, .int .i64 ST.2.f2, .slice ra3 n3 rc3, .bool ST.2.f4, .bool ST.2.f5, .bool ST.2.f6] 43)).heap.size := by simp
        exact ⟨k + 1, by omega, rfl, by go_num, _, _, D1, SpQ.next H4.out.1 ST H4.out.2.2 H3.out.2.2.2.2.1 (fun t ht => (H3.out.2.2.1 t ht).imp id (fun z => ⟨by omega, z.2⟩)) H3.out.2.1 (owns_mono H3.out.1 (by omega)) H3.out.2.2.2.1 ((Chg.of_below ((Below.refl w3.heap.size w3).alloc (Nat.le_refl _) _)).trans H6.out.2.1) H6.out.1 (H6.out.2.2.imp id (fun e => ⟨_, e, sz⟩))⟩
    · obtain rfl : k = n := by omega
      obtain ⟨ra, rc', er⟩ := own_form SJ.ow
      subst er
      have H2H : Hid _ := And.intro SJ True.intro
      clear SJ
      go_wp2
      go_ret2
      obtain ⟨zl, ow, cs, inn, ap, rep, dr, du, db, bw⟩ := H2H.out.1
      refine ⟨_, rfl, ⟨U, ⟨zs, by rw [zl_length, srun_length]; exact ow, fun j hj f hf => ?_⟩, fun j hj => ?_, fun i j hij hj => ap i j hij (by rw [srun_length] at hj; exact hj)⟩, bw⟩
      · rw [zl_length, srun_length] at hj
        rw [zl_at _ _ _ _ (by rw [srun_length]; exact hj), srun_at R j k hj]
        exact cs j hj f hf
      · rw [srun_length] at hj
        rw [srun_at R j k hj]
        exact inn j hj
set_option maxRecDepth 20000 in
set_option maxHeartbeats 1000000 in
theorem specSR (v : Value) (R : List SSendOp) (w : World) (row : BRow 5 SSendOp.c SSendOp.d w v R) (hl : R.length ≤ 140737488355328)
    (hd : ∀ j, j < R.length → (R.getD j default).d.length ≤ 1048576) (h1 : ∀ j, j < R.length → (R.getD j default).f1 ≤ 9223372036854775807) (h2 : ∀ j, j < R.length → (R.getD j default).f2 ≤ 9223372036854775807) :
    Calls Tryd.prog 5 #[v] w fun e w' => ∃ r, e = .returned (.tuple #[r, .int .i64 (srC R)]) ∧ BOwns 43 7 SSendObs.c SSendObs.d w' w.heap.size r (srY R) ∧ Below w.heap.size w w' := by
  obtain ⟨ao, cp, ev⟩ := row.form
  by_cases a1 : 400 < R.length
  · have e1 : srC R = 4 := by unfold srC; rw [if_pos a1]
    have e2 : srY R = [] := by unfold srY; rw [if_pos a1]
    rw [e1, e2, ev]
    have a1' : (400 : Int) < (R.length : Int) := by omega
    generalize R.length = n at *
    clear row hd h1 h2
    go_enter Tryd.func5, Tryd.ntmps5
    go_wp2
    go_ret2
    exact ⟨_, rfl, BOwns.lit0S _ _ (by decide) _ _ w _ (Nat.le_refl _), (Below.refl _ _).alloc (Nat.le_refl _) _⟩
  have e1 : srC R = 0 := by unfold srC; rw [if_neg a1]
  have e2 : srY R = (srun R R.length).2 := by unfold srY; rw [if_neg a1]
  rw [e1, e2]
  exact specLoopS v R w row (by omega) hd h1 h2
/-- The bytes of an answer are not too many. -/
theorem sstep_len (m : SS) (o : SSendOp) (h : m.B.length ≤ 65536) : (sstep m o).2.d.length ≤ 65536 := by
  show (sstep m o).2.f3.length ≤ 65536
  unfold sstep
  split
  · exact Nat.zero_le _
  split
  · exact Nat.zero_le _
  split
  · exact Nat.zero_le _
  split
  · split
    · exact Nat.zero_le _
    · show (spull m o.f2.toNat).2.2.1.length ≤ _
      unfold spull
      split
      · exact Nat.zero_le _
      · split
        · exact Nat.zero_le _
        · simp only [List.length_take, List.length_drop]; omega
  split
  · exact Nat.zero_le _
  split
  · exact Nat.zero_le _
  split
  · split <;> exact Nat.zero_le _
  split
  · split <;> exact Nat.zero_le _
  · exact Nat.zero_le _
theorem srun_sum (R : List SSendOp) (n : Nat) : ∀ k, k ≤ n → sumB 6 SSendObs.d (srun R n).2 k ≤ 65542 * k
  | 0, _ => Nat.zero_le _
  | k + 1, hk => by
    have h1 := srun_sum R n k (by omega)
    have h2 := sstep_len (srun R k).1 (R.getD k default) (srun_SI R k).big
    have e := srun_at R k n (by omega)
    simp only [sumB]
    rw [e]
    omega
theorem srY_bound (R : List SSendOp) : (srY R).length ≤ 1048576 ∧ sumB 6 SSendObs.d (srY R) (srY R).length ≤ 1099511627776 := by
  unfold srY
  split
  · exact ⟨by simp, by simp [sumB]⟩
  · rename_i h
    rw [srun_length]
    have := srun_sum R R.length R.length (Nat.le_refl _)
    omega
theorem cell_ltS {w : World} {b o : Nat} {u : Value} (h : w.cell? ⟨b, o, none⟩ = some u) : b < w.heap.size := by
  refine Nat.lt_of_not_le (fun hn => ?_)
  have e : w.heap[b]? = none := Array.getElem?_eq_none (by omega)
  simp [World.cell?, e] at h
theorem fnExactSendRun_walk (v : Value) (R : List SSendOp) (sm : R.length ≤ maxLen) (sd : ∀ j, j < R.length → (R.getD j default).d.length ≤ maxLen) (so : ∀ j, j < R.length → (R.getD j default).f1 ≤ 9223372036854775807 ∧ (R.getD j default).f2 ≤ 9223372036854775807) (w : World) (row : BRow 5 SSendOp.c SSendOp.d w v R) (ht : TabF w) :
    Calls Tryd.prog 3 #[v] w fun e w' => e = .returned (.bool true) ∧ Below w.heap.size w w' := by
  have h0 : 0 < w.heap.size := cell_ltS ht.c0
  refine fnExactSendRun_of v R (Nat.le_trans sm (by decide)) (fun j hj => Nat.le_trans (sd j hj) (by decide)) w row (fun hf => ?_)
  have sm' : R.length ≤ 140737488355328 := by omega
  have sd' : ∀ j, j < R.length → (R.getD j default).d.length ≤ 1048576 := fun j hj => Nat.le_trans (sumB_one 0 SSendOp.d R j R.length hj) (by omega)
  exact ⟨srY R, srC R, srY_bound R, fun v w' _ r => specSR v R w' r sm' sd' (fun j hj => (so j hj).1) (fun j hj => (so j hj).2), fun v w' hb r => implSR v R w' (ht.below hb h0) (Nat.lt_of_lt_of_le h0 hb.size) r sm' (fun j hj => Nat.le_trans (sd' j hj) (by decide)) (fun j hj => (so j hj).2)⟩
end Go.Proofs.YtdkonhjbcgnfhaaDoor

namespace Go.Proofs.YtdkonhjbcgnfhaaDoor.fnExactSendRun
open Go.ChangeShapes Go.WideShapes Go.ChangeAt Go.RowKit
set_option linter.unusedVariables false

theorem own : ownKnob Tryd.prog.godebug = none := by kernel_rfl
theorem laidOut : laidOutB Tryd.prog = true := by kernel_rfl
theorem cells_b : Tryd.prog.cellsOf 5 = 1 := by kernel_rfl
theorem gTab : Tryd.prog.globalNamed "loop.example/g00012/impl.streamFollows" = some 0 := by kernel_rfl
theorem gTabType : (Tryd.prog.globals[0]?).map (·.type) = some 77 := by kernel_rfl
theorem table {W : World} (h : laidMetH Tryd.prog Rows.fnExactSendRunRow.laid W) : TabF W :=
  tabF_of_laid gTab gTabType Tryd.underlying77 Tryd.underlying76 Tryd.underlying5 (by kernel_rfl) (by kernel_rfl) (by kernel_rfl) h

set_option maxRecDepth 20000 in
theorem contract (H : Type) (enc : TypeId × Value → H) (W : World) (base : Nat) (args : Array Value) (ds gs : List (DataW H)) (before : List MemPlace)
    (hval : ∀ (j : Nat) t v, Tryd.f3.params[j]? = some t → args[j]? = some v → Value.okWide Tryd.prog W .any base t v)
    (hW : DataW.Whole enc Tryd.prog Tryd.f3.params.toList Rows.fnExactSendRunSpec.vars false W args.toList ds gs before) (hL : laidMetH Tryd.prog Rows.fnExactSendRunRow.laid W) :
    Calls Tryd.prog 3 args W fun e W' => ∃ v, e = .returned v ∧ Rows.fnExactSendRunSpec.post enc Tryd.prog Tryd.f3 false true false false W args v W' := by
  have hW' := hW
  obtain ⟨p, q, hA0, hV, rfl, hfz, hnd⟩ := hW
  have hA : DataW.TrodAll enc Tryd.prog W 0 (fun _ => true) true Tryd.f3.params.toList args.toList ds p := hA0
  rw [Tryd.params3] at hA hval
  obtain ⟨v0, vs0, d0, ds0, p0, q0, hargs, rfl, rfl, h0, r0⟩ := trodAll_cons hA
  obtain ⟨rfl, rfl, rfl⟩ := trodAll_nil r0
  obtain rfl : args = #[v0] := by cases args; simp_all
  obtain ⟨g, t, cs, fuel, dg, pg, rfl, -⟩ := trodVars_one hV
  obtain ⟨k0, row0, sm0, sd0, so0⟩ := open_opsW Tryd.underlying22 Tryd.underlying37 (by kernel_rfl) (by kernel_rfl) ⟨rfl, rfl, rfl, rfl, rfl⟩ Tryd.underlying3 Tryd.underlying4 Tryd.underlying35 Tryd.underlying5 cells_b (hval 0 22 v0 rfl rfl) h0
  refine (fnExactSendRun_walk v0 k0 sm0 sd0 so0 W row0 (table hL)).mono fun e W' ⟨he, hb⟩ => ?_
  subst he
  exact ⟨_, rfl, law_post laidOut (by kernel_rfl) (by kernel_rfl) (by kernel_rfl) Tryd.underlying4 hW' rfl hb⟩

theorem laid_met (os : Os) : laidMet Tryd.prog Rows.fnExactSendRunRow.laid (({ World.holding Tryd.prog os ⟨#[], #[], []⟩ with heap := (World.holding Tryd.prog os ⟨#[], #[], []⟩).heap.modify 0 fun | .cells _ t frozen => .cells #[.int .u8 18, .int .u8 20, .int .u8 8, .int .u8 0, .int .u8 32, .int .u8 0, .int .u8 22, .int .u8 20, .int .u8 24, .int .u8 0, .int .u8 32, .int .u8 0] t frozen | o => o } : World).forCall (fun _ _ => 0) ⟨#[], #[.slice none 0 0], []⟩).memory :=
  laidMet_of_run' 8 (by kernel_rfl) (by kernel_rfl)
theorem reads (os : Os) {H : Type} (enc : TypeId × Value → H) : ∃ places, DataW.whole enc Tryd.prog (({ World.holding Tryd.prog os ⟨#[], #[], []⟩ with heap := (World.holding Tryd.prog os ⟨#[], #[], []⟩).heap.modify 0 fun | .cells _ t frozen => .cells #[.int .u8 18, .int .u8 20, .int .u8 8, .int .u8 0, .int .u8 32, .int .u8 0, .int .u8 22, .int .u8 20, .int .u8 24, .int .u8 0, .int .u8 32, .int .u8 0] t frozen | o => o } : World).forCall (fun _ _ => 0) ⟨#[], #[.slice none 0 0], []⟩).memory Tryd.f3.params.toList Rows.fnExactSendRunSpec.vars false #[(.slice none 0 0 : Value)].toList 8 = some ([.nil], [.agg [.agg [.lit (.int .u8 18), .lit (.int .u8 20), .lit (.int .u8 8), .lit (.int .u8 0), .lit (.int .u8 32), .lit (.int .u8 0)], .agg [.lit (.int .u8 22), .lit (.int .u8 20), .lit (.int .u8 24), .lit (.int .u8 0), .lit (.int .u8 32), .lit (.int .u8 0)]]], places) :=
  ⟨[.cell 0 0, .cell 0 1, .cell 0 2, .cell 0 3, .cell 0 4, .cell 0 5, .cell 0 6, .cell 0 7, .cell 0 8, .cell 0 9, .cell 0 10, .cell 0 11], by kernel_rfl⟩

set_option maxRecDepth 100000 in
theorem lifted (os : Os) (started : os.Started) (H : Type) (enc : TypeId × Value → H) (F : Stop.Interp) :
    ReturnsInHanded {} Tryd.checked os 3 .any ((OpenSpec.ofChange Rows.fnExactSendRunSpec).preRow enc Tryd.prog Tryd.f3 Rows.fnExactSendRunRow.domain false Rows.fnExactSendRunRow.laid) (((OpenSpec.ofChange Rows.fnExactSendRunSpec).at F).post enc Tryd.prog Tryd.f3 false true false false) := by
  obtain ⟨places, hx⟩ := reads os enc
  refine returnsInHanded_of_row (C := Tryd.checked) (s := OpenSpec.ofChange Rows.fnExactSendRunSpec) own started (by kernel_rfl) Tryd.func3
    (witness_row_at (enc := enc) (C := Tryd.checked) false ({ World.holding Tryd.prog os ⟨#[], #[], []⟩ with heap := (World.holding Tryd.prog os ⟨#[], #[], []⟩).heap.modify 0 fun | .cells _ t frozen => .cells #[.int .u8 18, .int .u8 20, .int .u8 8, .int .u8 0, .int .u8 32, .int .u8 0, .int .u8 22, .int .u8 20, .int .u8 24, .int .u8 0, .int .u8 32, .int .u8 0] t frozen | o => o } : World) #[.slice none 0 0] rfl (by kernel_rfl) (by kernel_rfl) (by kernel_rfl)
      (OpenSpec.preRow_of_cond 8 hx (by kernel_rfl) (fun k hk => by cases hk) (by kernel_rfl) (laid_met os))) ?_
  intro W base args ds gs before hval hW _ _ _ hL _ _
  exact contract H enc W base args ds gs before hval hW hL

theorem said : Rows.FnExactSendRunSaid :=
  OpenClaim.holds_of_cond 3 Tryd.f3 rfl rfl rfl rfl rfl rfl rfl ⟨rfl, rfl, rfl, rfl, rfl⟩ rfl rfl rfl rfl rfl (by kernel_rfl) Tryd.func3 (by kernel_rfl)
    (of_decide_eq_true (by kernel_rfl)) (by unfold Func.isWrapper; first | (rw [if_pos (by decide +kernel)]; kernel_rfl) | (rw [if_neg (by decide +kernel)]; exact ⟨rfl, rfl⟩))
    (fun os started H enc _ F => by rw [OpenClaim.pre_eq_preRow]; exact lifted os started H enc F)

theorem plain (f : FuncId) (fn : Func) (hf : Tryd.pinned.checked.prog.funcNamed "loop.example/g00012/laws.FnExactSendRun" = some f) (hfn : Tryd.pinned.checked.prog.funcs[f]? = some fn) :
    false = Tryd.pinned.checked.prog.looks [] ∧ ∀ (j : Nat) t, fn.params[j]? = some t → Tryd.pinned.checked.prog.wantsStandIn t = false := by
  obtain rfl : f = 3 := Option.some.inj ((show Tryd.prog.funcNamed "loop.example/g00012/laws.FnExactSendRun" = some 3 by kernel_rfl).symm.trans hf) |>.symm
  obtain rfl : fn = Tryd.f3 := (Option.some.inj (Tryd.func3.symm.trans hfn)).symm
  refine ⟨by kernel_rfl, fun j t ht => ?_⟩
  rw [Tryd.params3] at ht
  have hm : t ∈ [22] := by simpa using Array.mem_of_getElem? ht
  have hall : ([22].all fun u => !Tryd.prog.wantsStandIn u) = true := by kernel_rfl
  exact (show Tryd.prog.wantsStandIn t = false by simpa using List.all_eq_true.1 hall t hm)

end Go.Proofs.YtdkonhjbcgnfhaaDoor.fnExactSendRun

namespace Go.Proofs.YtdkonhjbcgnfhaaDoor
theorem fnExactSendRun_holds : Rows.FnExactSendRunCardSaid :=
  Claim7.holds_tied_plain_at .later [] _ _ _ _ fnExactSendRun.said (fun _ h => by cases h) (by kernel_rfl) (fun _ h => by cases h) fnExactSendRun_row_tie rfl ⟨rfl, rfl⟩ (by kernel_rfl) rfl fnExactSendRun.plain (by kernel_rfl)
#print axioms fnExactSendRun_holds
end Go.Proofs.YtdkonhjbcgnfhaaDoor
