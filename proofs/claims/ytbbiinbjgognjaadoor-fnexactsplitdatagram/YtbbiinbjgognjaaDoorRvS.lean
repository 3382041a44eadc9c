import Derived.Test.YtbbiinbjgognjaaDoorRvA
import Derived.Test.YtbbiinbjgognjaaDoorPkE
namespace Go.Proofs.YtbbiinbjgognjaaDoor
open Go.RowKit
set_option linter.unusedVariables false

set_option maxRecDepth 20000 in
set_option maxHeartbeats 1000000 in
theorem peekT_long (ao : Option Addr) (n cap : Nat) (cl : Int) (xs : List Int) (w : World) (hlen : xs.length = n) (hn : n ≤ 9223372036854775807) (h : 65536 < n) :
    Calls Tryd.prog 7 #[.slice ao n cap, .int .i64 cl] w fun e w' => PkPost xs cl w e w' := by
  have e : pk xs cl = .error 4 := by unfold pk; rw [if_pos (by omega)]
  have hb : Below w.heap.size w (w.alloc (.cells #[.int .i64 0, .int .i64 0, .slice none 0 0, .slice none 0 0, .slice none 0 0, .int .i64 0, .int .i64 0, .int .i64 0] 24)) := (Below.refl _ _).alloc (Nat.le_refl _) _
  have hh := heap_alloc_new w (.cells #[.int .i64 0, .int .i64 0, .slice none 0 0, .slice none 0 0, .slice none 0 0, .int .i64 0, .int .i64 0, .int .i64 0] 24)
  have d : decide ((65536 : Int) < (n : Int)) = true := decide_eq_true (by omega)
  have HE : Hid _ := And.intro e (And.intro hb hh)
  clear e hb hh hlen hn h
  go_enter Tryd.func7, Tryd.ntmps7
  go_wp2_with fail
  refine bodyPost_ret (v := .tuple #[.agg #[.int .i64 0, .int .i64 0, .slice none 0 0, .slice none 0 0, .slice none 0 0, .int .i64 0, .int .i64 0, .int .i64 0], .int .i64 0, .int .i64 4]) ?_ rfl ?_
  · exact results_row_tmp2 (t := 24) rfl _ _ w.heap.size _ (fr := (0, 0)) _ _ _ rfl rfl rfl HE.out.2.2 Tryd.underlying24 rfl infoHd
  · exact ⟨HE.out.2.1, Or.inl ⟨4, HE.out.1, rfl⟩⟩
set_option maxRecDepth 20000 in
set_option maxHeartbeats 1000000 in
theorem peekT_in (ao : Option Addr) (n cap m : Nat) (xs : List Int) (w : World) (hlie : n = 0 ∨ ∃ b off, ao = some ⟨b, off, none⟩ ∧ Lies w b off n cap xs) (hlen : xs.length = n) (hB : Bytes xs) (hn : n ≤ 65536) (hm : m ≤ 8) :
    Calls Tryd.prog 7 #[.slice ao n cap, .int .i64 m] w fun e w' => PkPost xs m w e w' := by
  have hb : Below w.heap.size w (w.alloc (.cells #[.int .i64 0, .int .i64 0, .slice none 0 0, .slice none 0 0, .slice none 0 0, .int .i64 0, .int .i64 0, .int .i64 0] 24)) := (Below.refl _ _).alloc (Nat.le_refl _) _
  have hh := heap_alloc_new w (.cells #[.int .i64 0, .int .i64 0, .slice none 0 0, .slice none 0 0, .slice none 0 0, .int .i64 0, .int .i64 0, .int .i64 0] 24)
  have hp := peekS ao n cap m xs (w.alloc (.cells #[.int .i64 0, .int .i64 0, .slice none 0 0, .slice none 0 0, .slice none 0 0, .int .i64 0, .int .i64 0, .int .i64 0] 24)) (hlie.imp id (fun ⟨b, off, h1, h2⟩ => ⟨b, off, h1, h2.below hb⟩)) hlen hB hn hm
  have d : decide ((65536 : Int) < (n : Int)) = false := decide_eq_false (by omega)
  have d1 : decide ((m : Int) < 0) = false := decide_eq_false (by omega)
  have d2 : decide ((8 : Int) < (m : Int)) = false := decide_eq_false (by omega)
  have HE : Hid _ := And.intro hb (And.intro hh True.intro)
  clear hb hh hlen hn hm hlie hB
  go_enter Tryd.func7, Tryd.ntmps7
  go_wp2_with fail
  go_at_call 27
  refine hp.mono ?_
  rintro e w1 ⟨b1, hr⟩
  have k0 : hdB w1 w.heap.size (.int .i64 0) (.int .i64 0) (.slice none 0 0) (.slice none 0 0) (.slice none 0 0) (.int .i64 0) (.int .i64 0) (.int .i64 0) := (b1.block w.heap.size (by simp)).trans HE.out.2.1
  have kb : Below w.heap.size w w1 := HE.out.1.trans (b1.mono HE.out.1.size)
  obtain ⟨zc0, zc1, zc2, zc3, zc4, zc5, zc6, zc7⟩ := hdB_cells k0
  obtain ⟨zf0, zf1, zf2, zf3, zf4, zf5, zf6, zf7⟩ := hdB_free k0
  rcases hr with ⟨c, hc, rfl⟩ | ⟨K, vd, vs, vt, hc, rfl, ho⟩
  · have hE8 : (st8 w1 w.heap.size (.int .i64 0) (.int .i64 0) (.slice none 0 0) (.slice none 0 0) (.slice none 0 0) (.int .i64 0) (.int .i64 0) (.int .i64 0)).heap[w.heap.size]? = some (.cells #[.int .i64 0, .int .i64 0, .slice none 0 0, .slice none 0 0, .slice none 0 0, .int .i64 0, .int .i64 0, .int .i64 0] 24 (0, 0)) := st8_heap k0
    have hB8 : Below w.heap.size w (st8 w1 w.heap.size (.int .i64 0) (.int .i64 0) (.slice none 0 0) (.slice none 0 0) (.slice none 0 0) (.int .i64 0) (.int .i64 0) (.int .i64 0)) := st8_below kb (Nat.le_refl _)
    have HQ : Hid _ := And.intro hE8 (And.intro hB8 hc)
    clear hE8 hB8 k0 kb b1 hp hc
    go_wp2_with fail
    refine bodyPost_ret (v := .tuple #[.agg #[.int .i64 0, .int .i64 0, .slice none 0 0, .slice none 0 0, .slice none 0 0, .int .i64 0, .int .i64 0, .int .i64 0], .int .i64 0, .int .i64 c]) ?_ rfl ?_
    · exact results_row_tmp2 (t := 24) rfl _ _ w.heap.size _ (fr := (0, 0)) _ _ _ rfl rfl rfl HQ.out.1 Tryd.underlying24 rfl infoHd
    · exact ⟨HQ.out.2.1, Or.inl ⟨c, HQ.out.2.2, rfl⟩⟩
  · obtain ⟨da, dp, ed⟩ := (row_of_owns ho.o0).form
    obtain ⟨sa, sp, es⟩ := (row_of_owns ho.o1).form
    obtain ⟨ta, tp, et⟩ := (row_of_owns ho.o2).form
    dsimp only at ed es et
    subst ed es et
    have hN : w.heap.size < (w.alloc (.cells #[.int .i64 0, .int .i64 0, .slice none 0 0, .slice none 0 0, .slice none 0 0, .int .i64 0, .int .i64 0, .int .i64 0] 24)).heap.size := by simp
    have hE8 : (st8 w1 w.heap.size (.int .i64 K.f) (.int .i64 K.v) (.slice da K.d.length dp) (.slice sa K.s.length sp) (.slice ta K.t.length tp) (.int .i64 0) (.int .i64 0) (.int .i64 0)).heap[w.heap.size]? = _ := st8_heap k0
    have hB8 : Below w.heap.size w (st8 w1 w.heap.size (.int .i64 K.f) (.int .i64 K.v) (.slice da K.d.length dp) (.slice sa K.s.length sp) (.slice ta K.t.length tp) (.int .i64 0) (.int .i64 0) (.int .i64 0)) := st8_below kb (Nat.le_refl _)
    have q0 : (st8 w1 w.heap.size (.int .i64 K.f) (.int .i64 K.v) (.slice da K.d.length dp) (.slice sa K.s.length sp) (.slice ta K.t.length tp) (.int .i64 0) (.int .i64 0) (.int .i64 0)).ownsRow w.heap.size 5 1 _ _ _ := owns_mono (st8_owns ho.o0 hN) (Nat.le_of_lt hN)
    have q1 : (st8 w1 w.heap.size (.int .i64 K.f) (.int .i64 K.v) (.slice da K.d.length dp) (.slice sa K.s.length sp) (.slice ta K.t.length tp) (.int .i64 0) (.int .i64 0) (.int .i64 0)).ownsRow w.heap.size 5 1 _ _ _ := owns_mono (st8_owns ho.o1 hN) (Nat.le_of_lt hN)
    have q2 : (st8 w1 w.heap.size (.int .i64 K.f) (.int .i64 K.v) (.slice da K.d.length dp) (.slice sa K.s.length sp) (.slice ta K.t.length tp) (.int .i64 0) (.int .i64 0) (.int .i64 0)).ownsRow w.heap.size 5 1 _ _ _ := owns_mono (st8_owns ho.o2 hN) (Nat.le_of_lt hN)
    have HQ : Hid _ := And.intro hE8 (And.intro hB8 (And.intro hc (And.intro q0 (And.intro q1 (And.intro q2 (And.intro ho.a01 (And.intro ho.a02 ho.a12)))))))
    clear hE8 hB8 k0 kb b1 hp hc q0 q1 q2 ho hN
    go_wp2_with fail
    refine bodyPost_ret (v := .tuple #[.agg #[.int .i64 K.f, .int .i64 K.v, .slice da K.d.length dp, .slice sa K.s.length sp, .slice ta K.t.length tp, .int .i64 0, .int .i64 0, .int .i64 0], .int .i64 K.fin, .int .i64 0]) ?_ rfl ?_
    · exact results_row_tmp2 (t := 24) rfl _ _ w.heap.size _ (fr := (0, 0)) _ _ _ rfl rfl rfl HQ.out.1 Tryd.underlying24 rfl infoHd
    · exact ⟨HQ.out.2.1, Or.inr ⟨K, .slice da K.d.length dp, .slice sa K.s.length sp, .slice ta K.t.length tp, HQ.out.2.2.1, rfl, ⟨HQ.out.2.2.2.1, HQ.out.2.2.2.2.1, HQ.out.2.2.2.2.2.1, HQ.out.2.2.2.2.2.2.1, HQ.out.2.2.2.2.2.2.2.1, HQ.out.2.2.2.2.2.2.2.2⟩⟩⟩
theorem peekT0 (ao : Option Addr) (cap : Nat) (xs : List Int) (w : World) (hlie : xs.length = 0 ∨ ∃ b off, ao = some ⟨b, off, none⟩ ∧ Lies w b off xs.length cap xs) (hB : Bytes xs) (hm : xs.length ≤ 9223372036854775807) :
    Calls Tryd.prog 7 #[.slice ao xs.length cap, .int .i64 0] w fun e w' => PkPost xs 0 w e w' := by
  by_cases h : 65536 < xs.length
  · exact peekT_long ao _ cap 0 xs w rfl hm h
  · exact peekT_in ao _ cap 0 xs w hlie rfl hB (by omega) (by omega)
set_option maxRecDepth 20000 in
set_option maxHeartbeats 1000000 in
theorem specRV (v : Value) (xs : List Int) (w : World) (hrow : Row w .u8 v xs) (hB : Bytes xs) (hm : xs.length ≤ 9223372036854775807) :
    Calls Tryd.prog 22 #[v] w fun e w' => ∃ r, e = .returned (.tuple #[r, .int .i64 (rvC xs)]) ∧ w'.ownsRow w.heap.size 3 1 r (rvL xs).length ((rvL xs).map (Value.int .i64)) ∧ Below w.heap.size w w' := by
  obtain ⟨ao, cap, rfl, hlie⟩ := row_lies hrow
  have hp := peekT0 ao cap xs w hlie hB hm
  cases hpk : pk xs 0 with
  | error c =>
    have e1 : rvC xs = c := by unfold rvC; rw [hpk]
    have e2 : rvL xs = [] := by unfold rvL; rw [hpk]
    rw [e1, e2]
    have hc0 : (c != 0) = true := by have := pk_err hpk; simp [this]
    have HE : Hid _ := And.intro hpk True.intro
    clear e1 e2 hlie hB hrow hpk
    generalize xs.length = n at *
    go_enter Tryd.func22, Tryd.ntmps22
    go_wp2_with fail
    go_at_call 7
    refine hp.mono ?_
    rintro e w1 ⟨b1, ⟨c', hc', rfl⟩ | ⟨K, vd, vs, vt, hc', _⟩⟩
    · rw [HE.out.1] at hc'
      cases hc'
      have ba : ∀ o o', Below w.heap.size w ((w1.alloc o).alloc o') := fun o o' => (b1.alloc b1.size o).alloc (by simp; have := b1.size; omega) o'
      have oe : ∀ o, ((w1.alloc o).alloc (.cells #[] 3)).ownsRow w.heap.size 3 1 (.slice (some ⟨(w1.alloc o).heap.size, 0, none⟩) 0 0) 0 (([] : List Int).map (Value.int .i64)) := fun o => ownsRow_empty (w1.alloc o) w.heap.size (by simp; have := b1.size; omega) 3
      have HB : Hid _ := And.intro ba oe
      clear ba oe b1 hp
      go_wp2_with fail
      go_ret2
      exact ⟨_, rfl, by simpa using HB.out.2 _, HB.out.1 _ _⟩
    · rw [HE.out.1] at hc'; cases hc'
  | ok K =>
    have e1 : rvC xs = if K.f = 5 then 0 else 3 := by unfold rvC; rw [hpk]
    have e2 : rvL xs = if K.f = 5 then K.vers else [] := by unfold rvL; rw [hpk]
    rw [e1, e2]
    by_cases h5 : K.f = 5
    · rw [if_pos h5, if_pos h5]
      obtain ⟨v1, v2, v3⟩ := pk_vers hpk h5
      have hvo : versOut xs (7 + K.d.length + K.s.length) = K.vers := by unfold versOut; rw [v1]
      obtain ⟨b, off, rfl, hl⟩ : ∃ b off, ao = some ⟨b, off, none⟩ ∧ Lies w b off xs.length cap xs := by
        rcases hlie with h | h
        · omega
        · exact h
      have d5 : (K.f != 5) = false := by simp [h5]
      have hw1 : IntKind.i64.wrap (7 + (K.d.length : Int)) = 7 + (K.d.length : Int) := by rw [IntKind.wrap_i64]; omega
      have hw2 : IntKind.i64.wrap (7 + (K.d.length : Int) + (K.s.length : Int)) = ((7 + K.d.length + K.s.length : Nat) : Int) := by rw [IntKind.wrap_i64]; omega
      have HE : Hid _ := And.intro hpk (And.intro hvo (And.intro v2 (And.intro v3 (And.intro hl hB))))
      clear e1 e2 hlie hB hrow hpk v1 hvo hl h5 hm
      obtain ⟨n, en⟩ : ∃ n, n = xs.length := ⟨_, rfl⟩
      rw [← en] at hp ⊢
      have EN : Hid (n = xs.length) := en
      clear en v2 v3
      obtain ⟨q, eq⟩ : ∃ q : Nat, q = 7 + K.d.length + K.s.length := ⟨_, rfl⟩
      rw [← eq] at hw2
      have EQ : Hid (q = 7 + K.d.length + K.s.length) := eq
      clear eq
      go_enter Tryd.func22, Tryd.ntmps22
      go_wp2_with fail
      go_at_call 7
      refine hp.mono ?_
      rintro e w1 ⟨b1, ⟨c', hc', _⟩ | ⟨K', vd, vs, vt, hc', rfl, ho⟩⟩
      · rw [HE.out.1] at hc'; cases hc'
      · rw [HE.out.1] at hc'
        cases hc'
        obtain ⟨da, dp, ed⟩ := (row_of_owns ho.o0).form
        obtain ⟨sa, sp, es⟩ := (row_of_owns ho.o1).form
        obtain ⟨ta, tp, et⟩ := (row_of_owns ho.o2).form
        dsimp only at ed es et
        subst ed es et
        have ba : ∀ o o', Below w.heap.size w ((w1.alloc o).alloc o') := fun o o' => (b1.alloc b1.size o).alloc (by simp; have := b1.size; omega) o'
        have hvs : ∀ o, _ := fun o => versS (w1.heap.size + 1) b off xs.length cap (7 + K.d.length + K.s.length) xs ((w1.alloc o).alloc (.cells #[.slice (some ⟨b, off, none⟩) xs.length cap, .int .i64 ((7 + K.d.length + K.s.length : Nat) : Int), .bool false] 58)) (bk_new2 w1 _ _).2 (HE.out.2.2.2.2.1.below (ba _ _)) HE.out.2.2.2.2.2 (by have h1 := HE.out.2.2.2.2.1.lt; have h2 := b1.size; omega) HE.out.2.2.2.1 HE.out.2.2.1
        rw [HE.out.2.1, ← EN.out, ← EQ.out] at hvs
        have HB : Hid _ := And.intro ba b1.size
        clear ba b1 hp ho
        go_wp2_with fail
        go_at_call 35
        refine (hvs _).mono ?_
        rintro e w2 ⟨c2, _, v, rfl, o2⟩
        have bf : Below w.heap.size w w2 := (HB.out.1 _ _).trans (c2.below (HB.out.1 _ _).size (fun k hk => by have := HB.out.2; omega))
        have of := owns_mono o2 (base' := w.heap.size) (HB.out.1 _ _).size
        have HF : Hid _ := And.intro bf of
        clear bf of o2 c2 hvs
        go_wp2_with fail
        go_ret2
        exact ⟨_, rfl, HF.out.2, HF.out.1⟩
    · rw [if_neg h5, if_neg h5]
      have d5 : (K.f != 5) = true := by simp [h5]
      have HE : Hid _ := And.intro hpk True.intro
      clear e1 e2 hlie hB hrow hpk h5
      generalize xs.length = n at *
      go_enter Tryd.func22, Tryd.ntmps22
      go_wp2_with fail
      go_at_call 7
      refine hp.mono ?_
      rintro e w1 ⟨b1, ⟨c', hc', _⟩ | ⟨K', vd, vs, vt, hc', rfl, ho⟩⟩
      · rw [HE.out.1] at hc'; cases hc'
      · rw [HE.out.1] at hc'
        cases hc'
        obtain ⟨da, dp, ed⟩ := (row_of_owns ho.o0).form
        obtain ⟨sa, sp, es⟩ := (row_of_owns ho.o1).form
        obtain ⟨ta, tp, et⟩ := (row_of_owns ho.o2).form
        dsimp only at ed es et
        subst ed es et
        have ba : ∀ o o', Below w.heap.size w ((w1.alloc o).alloc o') := fun o o' => (b1.alloc b1.size o).alloc (by simp; have := b1.size; omega) o'
        have oe : ∀ o, ((w1.alloc o).alloc (.cells #[] 3)).ownsRow w.heap.size 3 1 (.slice (some ⟨(w1.alloc o).heap.size, 0, none⟩) 0 0) 0 (([] : List Int).map (Value.int .i64)) := fun o => ownsRow_empty (w1.alloc o) w.heap.size (by simp; have := b1.size; omega) 3
        have HB : Hid _ := And.intro ba oe
        clear ba oe b1 hp ho
        go_wp2_with fail
        go_ret2
        exact ⟨_, rfl, by simpa using HB.out.2 _, HB.out.1 _ _⟩
theorem rvL_length (xs : List Int) : (rvL xs).length ≤ 4096 := by
  unfold rvL
  split
  · rename_i K hK
    split
    · rename_i h5
      have h1 := (pk_vers hK h5).1
      unfold pkVer at h1
      split at h1
      · cases h1
      · split at h1
        · have e := Except.ok.inj h1
          rw [← e, versL_length]
          omega
        · cases h1
    · simp
  · simp
end Go.Proofs.YtbbiinbjgognjaaDoor
