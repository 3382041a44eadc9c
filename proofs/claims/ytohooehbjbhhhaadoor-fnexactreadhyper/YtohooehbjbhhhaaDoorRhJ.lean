import Derived.Test.YtohooehbjbhhhaaDoorRhI
namespace Go.Proofs.YtohooehbjbhhhaaDoor
open Go.RowKit
set_option linter.unusedVariables false

/-- Four stores into one block. -/
theorem st4_heap {w : World} {g : Nat} {a0 a1 a2 a3 c0 c1 c2 c3 : Value} {t : TypeId} (h : w.heap[g]? = some (.cells #[c0, c1, c2, c3] t (0, 0))) : ((((w.setCell ⟨g, 0, none⟩ a0).setCell ⟨g, 1, none⟩ a1).setCell ⟨g, 2, none⟩ a2).setCell ⟨g, 3, none⟩ a3).heap[g]? = some (.cells #[a0, a1, a2, a3] t (0, 0)) :=
  (bk_set (bk_set (bk_set (bk_set h 0 a0) 1 a1) 2 a2) 3 a3).trans (congrArg (fun x => some (Obj.cells x t (0, 0))) (by simp))
/-- What ReadHyper answers. -/
def RhA' (B : Nat) (e : Ending) (w' : World) (r : HF × Int × Int) : Prop := ∃ d s : Value, e = .returned (.tuple #[hV r.1 d s, .int .i64 r.2.1, .int .i64 r.2.2]) ∧ w'.ownsRow B 5 1 d r.1.d.length (r.1.d.map (Value.int .u8)) ∧ GOwns 40 2 w' B s (SSetting.L r.1.s) ∧ (∀ j, d.ownBlock = some j → s.ownBlock ≠ some j)
set_option maxRecDepth 20000 in
set_option maxHeartbeats 2000000 in
theorem rhI_bad (ao : Option Addr) (n cap : Nat) (at' c : Int) (xs : List Int) (w : World) (ht : Tab w) (he : errT w) (hlie : xs = [] ∨ ∃ b off, ao = some ⟨b, off, none⟩ ∧ Lies w b off n cap xs) (hlen : xs.length = n) (hB : Bytes xs) (hn : n ≤ 9223372036854775807) (hc : rhE xs at' = .error c) :
    Calls Tryd.prog 6 #[.slice ao n cap, .int .i64 at'] w fun e w' => RhA' w.heap.size e w' (zHF, 0, c) ∧ Below w.heap.size w w' := by
  have hcl := rhClos ao n cap at' xs w ht hlie hlen hB hn
  obtain ⟨e0, e1, e2, e3, e4, e5⟩ := six_blocksR w (.cells #[.int .i64 at'] 3) zfO zfO (.cells #[.int .i64 0] 3) (.cells #[.nilIface] 44) (.cells #[.slice ao n cap, .int .i64 0] 48)
  have hb := six_belowR w (.cells #[.int .i64 at'] 3) zfO zfO (.cells #[.int .i64 0] 3) (.cells #[.nilIface] 44) (.cells #[.slice ao n cap, .int .i64 0] 48)
  have hz5 : w.heap.size + 5 < (rhW6 w at' ao n cap).heap.size := (Array.getElem?_eq_some_iff.1 e5).1
  have hcl2 : Calls Tryd.prog 17 #[.pointer (some ⟨w.heap.size + 5, 0, none⟩), .pointer (some ⟨w.heap.size, 0, none⟩), .pointer (some ⟨w.heap.size + 2, 0, none⟩), .pointer (some ⟨w.heap.size + 3, 0, none⟩)] (rhW6 w at' ao n cap) fun e w' => e = .panicked [leftP c] ∧ Chg (S3 (w.heap.size + 5) (w.heap.size + 2) (w.heap.size + 3)) (rhW6 w at' ao n cap) w' := by
    refine hcl.mono ?_
    rintro e w' ⟨h1, ⟨c', h2, h3⟩ | ⟨f, q, h2, _⟩⟩
    · rw [hc] at h2; cases h2; exact ⟨h3, h1⟩
    · rw [hc] at h2; cases h2
  have hrd := rbH_bad ao n cap (.pointer (some ⟨w.heap.size, 0, none⟩)) (.pointer (some ⟨w.heap.size + 2, 0, none⟩)) (.pointer (some ⟨w.heap.size + 3, 0, none⟩)) c (rhW w at')
    (fun w' => Chg (S3 (w.heap.size + 5) (w.heap.size + 2) (w.heap.size + 3)) (rhW6 w at' ao n cap) w') (by simpa using hcl2) (fun w' hq => by
      have h1 := (hq.block (w.heap.size + 4) (by omega) (fun h => by rcases h with h | h | h <;> omega)).trans e4
      simpa using h1)
  have hmf : ∀ (fn : Fn) (first cap : Array Value) (w : World), (Instr.makeFunc fn first cap).run Tryd.prog w = .ok (.func fn first cap) w := fun _ _ _ _ => rfl
  have HH : Hid _ := And.intro hrd (And.intro hb (And.intro e1 (And.intro hz5 (And.intro he he.lt))))
  clear hcl hcl2 hrd e0 e1 e2 e3 e4 e5 hb hz5 ht hlie hlen hB hc he
  go_enter Tryd.func6, Tryd.ntmps6
  go_wp2_with fail
  go_at_call 16
  refine HH.out.1.mono ?_
  rintro e w1 ⟨rfl, w', hq, hw1⟩
  have hb1 : Below w.heap.size w w1 := by
    have h1 : Below w.heap.size w w' := HH.out.2.1.trans (hq.below HH.out.2.1.size (fun k hk => by rcases hk with hk | hk | hk <;> omega))
    rw [hw1]
    exact (h1.setCell (by simp <;> omega) _).alloc (Nat.le_trans h1.size (by simp [World.setCell])) _
  have e11 : w1.heap[w.heap.size + 1]? = some (.cells #[.int .i64 0, .int .i64 0, .slice none 0 0, .slice none 0 0] 25 (0, 0)) := by
    have h1 := (hq.block (w.heap.size + 1) (by have := HH.out.2.2.2.1; omega) (fun hk => by rcases hk with hk | hk | hk <;> omega)).trans HH.out.2.2.1
    have h2 : w.heap.size + 1 < w'.heap.size := (Array.getElem?_eq_some_iff.1 h1).1
    rw [hw1, Below.heap_alloc _ _ _ (by simp [World.setCell] <;> omega), bk_other (by simp <;> omega)]
    exact h1
  have CD := codeC_fault c w1 (HH.out.2.2.2.2.1.below hb1 HH.out.2.2.2.2.2)
  have H1 : Hid _ := And.intro hb1 (And.intro e11 CD)
  clear hb1 e11 CD hw1 hq
  unfold faultV at H1 ⊢
  go_wp2_with fail
  go_at_call 23
  refine H1.out.2.2.mono ?_
  rintro e w2 ⟨rfl, b2⟩
  have B2 : Below w.heap.size w w2 := H1.out.1.trans (b2.mono H1.out.1.size)
  have e21 := (b2.block (w.heap.size + 1) (Array.getElem?_eq_some_iff.1 H1.out.2.1).1).trans H1.out.2.1
  have c0 : w2.cell? ⟨w.heap.size + 1, 0, none⟩ = some (.int .i64 0) := (bk_cell e21 0).trans rfl
  have c1 : w2.cell? ⟨w.heap.size + 1, 1, none⟩ = some (.int .i64 0) := (bk_cell e21 1).trans rfl
  have c2 : w2.cell? ⟨w.heap.size + 1, 2, none⟩ = some (.slice none 0 0) := (bk_cell e21 2).trans rfl
  have c3 : w2.cell? ⟨w.heap.size + 1, 3, none⟩ = some (.slice none 0 0) := (bk_cell e21 3).trans rfl
  have f0 := bk_free e21 0
  have f1 := bk_free e21 1
  have f2 := bk_free e21 2
  have f3 := bk_free e21 3
  have H2 : Hid _ := And.intro B2 e21
  clear B2 e21 b2
  go_wp2_with fail
  refine bodyPost_ret (v := .tuple #[.agg #[.int .i64 0, .int .i64 0, .slice none 0 0, .slice none 0 0], .int .i64 0, .int .i64 c]) ?_ rfl ?_
  · refine results_row_tmp2R (t := 25) rfl _ _ (w.heap.size + 1) _ (fr := (0, 0)) _ _ _ rfl rfl rfl ?_ Tryd.underlying25 rfl infoHF
    exact st4_heap H2.out.2
  · exact ⟨⟨.slice none 0 0, .slice none 0 0, rfl, World.ownsRow_nil _ _ _ _, GOwns.nil _ _ _ _, fun j h => by cases h⟩, (((H2.out.1.setCell (by simp) _).setCell (by simp) _).setCell (by simp) _).setCell (by simp) _⟩
set_option maxRecDepth 20000 in
set_option maxHeartbeats 2000000 in
theorem rhI_ok (ao : Option Addr) (n cap : Nat) (at' : Int) (f : HF) (q : Nat) (xs : List Int) (w : World) (ht : Tab w) (hlie : xs = [] ∨ ∃ b off, ao = some ⟨b, off, none⟩ ∧ Lies w b off n cap xs) (hlen : xs.length = n) (hB : Bytes xs) (hn : n ≤ 9223372036854775807) (hc : rhE xs at' = .ok (f, q)) :
    Calls Tryd.prog 6 #[.slice ao n cap, .int .i64 at'] w fun e w' => RhA' w.heap.size e w' (f, (q : Int), 0) ∧ Below w.heap.size w w' := by
  have hcl := rhClos ao n cap at' xs w ht hlie hlen hB hn
  obtain ⟨e0, e1, e2, e3, e4, e5⟩ := six_blocksR w (.cells #[.int .i64 at'] 3) zfO zfO (.cells #[.int .i64 0] 3) (.cells #[.nilIface] 44) (.cells #[.slice ao n cap, .int .i64 0] 48)
  have hb := six_belowR w (.cells #[.int .i64 at'] 3) zfO zfO (.cells #[.int .i64 0] 3) (.cells #[.nilIface] 44) (.cells #[.slice ao n cap, .int .i64 0] 48)
  have hz5 : w.heap.size + 5 < (rhW6 w at' ao n cap).heap.size := (Array.getElem?_eq_some_iff.1 e5).1
  have hcl2 : Calls Tryd.prog 17 #[.pointer (some ⟨w.heap.size + 5, 0, none⟩), .pointer (some ⟨w.heap.size, 0, none⟩), .pointer (some ⟨w.heap.size + 2, 0, none⟩), .pointer (some ⟨w.heap.size + 3, 0, none⟩)] (rhW6 w at' ao n cap) fun e w' => e = .returned (.tuple #[]) ∧ (Chg (S3 (w.heap.size + 5) (w.heap.size + 2) (w.heap.size + 3)) (rhW6 w at' ao n cap) w' ∧ CloR (rhW6 w at' ao n cap).heap.size w' (w.heap.size + 2) (w.heap.size + 3) f q) := by
    refine hcl.mono ?_
    rintro e w' ⟨h1, ⟨c', h2, h3⟩ | ⟨f', q', h2, h3, h4⟩⟩
    · rw [hc] at h2; cases h2
    · rw [hc] at h2; cases h2; exact ⟨h3, h1, h4⟩
  have hrd := rbH_ok ao n cap (.pointer (some ⟨w.heap.size, 0, none⟩)) (.pointer (some ⟨w.heap.size + 2, 0, none⟩)) (.pointer (some ⟨w.heap.size + 3, 0, none⟩)) (rhW w at')
    (fun w' => Chg (S3 (w.heap.size + 5) (w.heap.size + 2) (w.heap.size + 3)) (rhW6 w at' ao n cap) w' ∧ CloR (rhW6 w at' ao n cap).heap.size w' (w.heap.size + 2) (w.heap.size + 3) f q) (by simpa using hcl2) (fun w' hq => by
      have h1 := (hq.1.block (w.heap.size + 4) (by omega) (fun h => by rcases h with h | h | h <;> omega)).trans e4
      simpa using h1)
  have hmf : ∀ (fn : Fn) (first cap : Array Value) (w : World), (Instr.makeFunc fn first cap).run Tryd.prog w = .ok (.func fn first cap) w := fun _ _ _ _ => rfl
  have HH : Hid _ := And.intro hrd (And.intro hb (And.intro e1 hz5))
  clear hcl hcl2 hrd e0 e1 e2 e3 e4 e5 hb hz5 ht hlie hlen hB hc
  go_enter Tryd.func6, Tryd.ntmps6
  go_wp2_with fail
  go_at_call 16
  refine HH.out.1.mono ?_
  rintro e w1 ⟨rfl, w', ⟨hq, ⟨d, s, F', D', S', hap⟩, hN⟩, hw1⟩
  have hs4 : (rhW w at').heap.size = w.heap.size + 4 := by simp
  have hb1 : Below w.heap.size w w1 := by
    have h1 : Below w.heap.size w w' := HH.out.2.1.trans (hq.below HH.out.2.1.size (fun k hk => by rcases hk with hk | hk | hk <;> omega))
    rw [hw1]
    exact h1.setCell (by simp <;> omega) _
  have e11 : w1.heap[w.heap.size + 1]? = some (.cells #[.int .i64 0, .int .i64 0, .slice none 0 0, .slice none 0 0] 25 (0, 0)) := by
    have h1 := (hq.block (w.heap.size + 1) (by have := HH.out.2.2.2; omega) (fun hk => by rcases hk with hk | hk | hk <;> omega)).trans HH.out.2.2.1
    rw [hw1, bk_other (by omega)]
    exact h1
  have F1 : fB w1 (w.heap.size + 2) f.k f.a d s := by
    unfold fB
    rw [hw1, bk_other (by omega)]
    exact F'
  have N1 : w1.heap[w.heap.size + 3]? = some (.cells #[.int .i64 (q : Int)] 3 (0, 0)) := by
    rw [hw1, bk_other (by omega)]
    exact hN
  have D1 : w1.ownsRow (rhW6 w at' ao n cap).heap.size 5 1 d f.d.length (f.d.map (Value.int .u8)) := by
    rw [hw1]
    exact own_setH D' (by rw [hs4]; have := HH.out.2.2.2; omega)
  have S1 : GOwns 40 2 w1 (rhW6 w at' ao n cap).heap.size s (SSetting.L f.s) := by
    rw [hw1]
    exact gown_setH S' (by rw [hs4]; have := HH.out.2.2.2; omega)
  have c0 := F1.c0
  have c1 := F1.c1
  have c2 := F1.c2
  have c3 := F1.c3
  have n0 : w1.cell? ⟨w.heap.size + 3, 0, none⟩ = some (.int .i64 (q : Int)) := (bk_cell N1 0).trans rfl
  have r0 : w1.cell? ⟨w.heap.size + 1, 0, none⟩ = some (.int .i64 0) := (bk_cell e11 0).trans rfl
  have r1 : w1.cell? ⟨w.heap.size + 1, 1, none⟩ = some (.int .i64 0) := (bk_cell e11 1).trans rfl
  have r2 : w1.cell? ⟨w.heap.size + 1, 2, none⟩ = some (.slice none 0 0) := (bk_cell e11 2).trans rfl
  have r3 : w1.cell? ⟨w.heap.size + 1, 3, none⟩ = some (.slice none 0 0) := (bk_cell e11 3).trans rfl
  have f0 := bk_free e11 0
  have f1 := bk_free e11 1
  have f2 := bk_free e11 2
  have f3 := bk_free e11 3
  obtain ⟨da, dc, ed⟩ := (row_of_owns D1).form
  obtain ⟨sa, sc, es⟩ := srow_form S1.row
  obtain ⟨dn, edn⟩ : ∃ dn, dn = f.d.length := ⟨_, rfl⟩
  obtain ⟨sn, esn⟩ : ∃ sn, sn = f.s.length := ⟨_, rfl⟩
  rw [← edn] at ed
  rw [← esn] at es
  have H1 : Hid _ := And.intro hb1 (And.intro e11 (And.intro D1 (And.intro S1 (And.intro hap HH.out.2.2.2))))
  subst ed
  subst es
  clear hb1 e11 F1 N1 D1 S1 hap hw1 hq F' D' S' hN HH hs4 edn esn
  go_wp2_with fail
  go_region
  all_goals
    go_wp2_with fail
    refine bodyPost_ret (v := .tuple #[.agg #[.int .i64 f.k, .int .i64 f.a, .slice da dn dc, .slice sa sn sc], .int .i64 (q : Int), .int .i64 0]) ?_ rfl ?_
    · refine results_row_tmp2R (t := 25) rfl _ _ (w.heap.size + 1) _ (fr := (0, 0)) _ _ _ rfl rfl rfl ?_ Tryd.underlying25 rfl infoHF
      exact st4_heap (w := w1.drew) H1.out.2.1
    · have hz := H1.out.2.2.2.2.2
      have hdr : Below w.heap.size w w1.drew := below_drewN H1.out.1 1
      refine ⟨⟨.slice da dn dc, .slice sa sn sc, rfl, ?_, ?_, H1.out.2.2.2.2.1⟩, (((hdr.setCell (by simp) _).setCell (by simp) _).setCell (by simp) _).setCell (by simp) _⟩
      · exact owns_mono (own_setH (own_setH (own_setH (own_setH (show w1.drew.ownsRow _ _ 1 _ _ _ from H1.out.2.2.1) (by omega)) (by omega)) (by omega)) (by omega)) (by omega)
      · exact (gown_setH (gown_setH (gown_setH (gown_setH (show GOwns _ 2 w1.drew _ _ _ from H1.out.2.2.2.1) (by omega)) (by omega)) (by omega)) (by omega)).mono (by omega)
/-- The program's ReadHyper. -/
theorem implRh (v : Value) (xs : List Int) (at' : Int) (w : World) (ht : Tab w) (he : errT w) (hrow : Row w .u8 v xs) (hB : Bytes xs) (hn : xs.length ≤ 9223372036854775807) :
    Calls Tryd.prog 6 #[v, .int .i64 at'] w fun e w' => RhA' w.heap.size e w' (rhR xs at') ∧ Below w.heap.size w w' := by
  obtain ⟨ao, cap, rfl, hlie⟩ := row_liesR hrow
  rw [rhR_E]
  cases hE : rhE xs at' with
  | error c => exact rhI_bad ao _ cap at' c xs w ht he hlie rfl hB hn hE
  | ok r =>
    obtain ⟨f, q⟩ := r
    exact rhI_ok ao _ cap at' f q xs w ht hlie rfl hB hn hE
end Go.Proofs.YtohooehbjbhhhaaDoor
