import Derived.Test.YtbbiinbjgognjaaDoorPeekLaw
import Derived.Test.YtbbiinbjgognjaaDoorRvS
import Derived.Deep.RegionWith
namespace Go.Proofs.YtbbiinbjgognjaaDoor
open Go.RowKit
set_option linter.unusedVariables false

theorem sub_le (xs : List Int) (p k : Nat) : (sub xs p k).length ≤ xs.length := by
  unfold sub
  rw [List.length_take, List.length_drop]
  omega
theorem ret_small {xs t : List Int} {p : Nat} (h : pkRet xs p = .ok t) : t.length ≤ xs.length := by
  unfold pkRet at h
  split at h
  · cases h
  · split at h
    · cases h
    · cases h; exact sub_le _ _ _
theorem ini_small {xs d s : List Int} {v : Int} {p : Nat} {K : PK} (h : pkIni xs v d s p = .ok K) : K.d = d ∧ K.s = s ∧ K.t.length ≤ xs.length := by
  unfold pkIni at h
  split at h
  · split at h
    · cases h
    · split at h
      · cases h
      · split at h
        · cases h
        · cases h; exact ⟨rfl, rfl, sub_le _ _ _⟩
  · cases h
theorem tail_small {xs d s : List Int} {f v : Int} {p : Nat} {K : PK} (h : pkTail xs f v d s p = .ok K) : K.d = d ∧ K.s = s ∧ K.t.length ≤ xs.length := by
  unfold pkTail at h
  split at h
  · split at h
    · cases h
    · split at h
      · cases h
      · cases h; exact ⟨rfl, rfl, Nat.zero_le _⟩
  · split at h
    · split at h
      · cases h
      · rename_i hb; cases h; exact ⟨rfl, rfl, ret_small hb⟩
    · split at h
      · exact ini_small h
      · split at h
        · split at h
          · cases h
          · cases h; exact ⟨rfl, rfl, Nat.zero_le _⟩
        · cases h
/-- What is told of a packet's clear part is no longer than the packet. -/
theorem pk_small {xs : List Int} {cl : Int} {K : PK} (h : pk xs cl = .ok K) : K.d.length ≤ 65536 ∧ K.s.length ≤ 65536 ∧ K.t.length ≤ 65536 := by
  unfold pk at h
  split at h
  · cases h
  · rename_i h16
    split at h
    · cases h
    · split at h
      · cases h
      · split at h
        · cases h
        · split at h
          · unfold pkShP at h
            split at h
            · cases h
            · rename_i d q hb
              cases h
              unfold pkSho at hb
              split at hb
              · cases hb
              · cases hb
                have := sub_le xs 1 cl.toNat
                exact ⟨by show (sub xs 1 cl.toNat).length ≤ 65536; omega, Nat.zero_le _, Nat.zero_le _⟩
          · unfold pkLong at h
            split at h
            · cases h
            · split at h
              · cases h
              · rename_i d p1 hc1
                split at h
                · cases h
                · rename_i s p2 hc2
                  obtain ⟨t1, t2, t3⟩ := tail_small h
                  obtain ⟨a1, a2⟩ := cid_spec hc1
                  obtain ⟨b1, b2⟩ := cid_spec hc2
                  rw [t1, t2]
                  exact ⟨by omega, by omega, by omega⟩
set_option maxRecDepth 20000 in
set_option maxHeartbeats 1000000 in
theorem peekT_low (ao : Option Addr) (n cap : Nat) (cl : Int) (xs : List Int) (w : World) (hlen : xs.length = n) (hn : n ≤ 65536) (h : cl < 0) :
    Calls Tryd.prog 7 #[.slice ao n cap, .int .i64 cl] w fun e w' => PkPost xs cl w e w' := by
  have e : pk xs cl = .error 1 := by unfold pk; rw [if_neg (by omega), if_pos (by omega)]
  have hb : Below w.heap.size w (w.alloc (.cells #[.int .i64 0, .int .i64 0, .slice none 0 0, .slice none 0 0, .slice none 0 0, .int .i64 0, .int .i64 0, .int .i64 0] 24)) := (Below.refl _ _).alloc (Nat.le_refl _) _
  have hh := heap_alloc_new w (.cells #[.int .i64 0, .int .i64 0, .slice none 0 0, .slice none 0 0, .slice none 0 0, .int .i64 0, .int .i64 0, .int .i64 0] 24)
  have d : decide ((65536 : Int) < (n : Int)) = false := decide_eq_false (by omega)
  have d1 : decide (cl < 0) = true := decide_eq_true h
  have HE : Hid _ := And.intro e (And.intro hb hh)
  clear e hb hh hlen hn h
  go_enter Tryd.func7, Tryd.ntmps7
  go_wp2_with fail
  refine bodyPost_ret (v := .tuple #[.agg #[.int .i64 0, .int .i64 0, .slice none 0 0, .slice none 0 0, .slice none 0 0, .int .i64 0, .int .i64 0, .int .i64 0], .int .i64 0, .int .i64 1]) ?_ rfl ?_
  · exact results_row_tmp2 (t := 24) rfl _ _ w.heap.size _ (fr := (0, 0)) _ _ _ rfl rfl rfl HE.out.2.2 Tryd.underlying24 rfl infoHd
  · exact ⟨HE.out.2.1, Or.inl ⟨1, HE.out.1, rfl⟩⟩
set_option maxRecDepth 20000 in
set_option maxHeartbeats 1000000 in
theorem peekT_high (ao : Option Addr) (n cap : Nat) (cl : Int) (xs : List Int) (w : World) (hlen : xs.length = n) (hn : n ≤ 65536) (h : 8 < cl) :
    Calls Tryd.prog 7 #[.slice ao n cap, .int .i64 cl] w fun e w' => PkPost xs cl w e w' := by
  have e : pk xs cl = .error 1 := by unfold pk; rw [if_neg (by omega), if_pos (by omega)]
  have hb : Below w.heap.size w (w.alloc (.cells #[.int .i64 0, .int .i64 0, .slice none 0 0, .slice none 0 0, .slice none 0 0, .int .i64 0, .int .i64 0, .int .i64 0] 24)) := (Below.refl _ _).alloc (Nat.le_refl _) _
  have hh := heap_alloc_new w (.cells #[.int .i64 0, .int .i64 0, .slice none 0 0, .slice none 0 0, .slice none 0 0, .int .i64 0, .int .i64 0, .int .i64 0] 24)
  have d : decide ((65536 : Int) < (n : Int)) = false := decide_eq_false (by omega)
  have d1 : decide (cl < 0) = false := decide_eq_false (by omega)
  have d2 : decide (8 < cl) = true := decide_eq_true h
  have HE : Hid _ := And.intro e (And.intro hb hh)
  clear e hb hh hlen hn h
  go_enter Tryd.func7, Tryd.ntmps7
  go_wp2_with fail
  refine bodyPost_ret (v := .tuple #[.agg #[.int .i64 0, .int .i64 0, .slice none 0 0, .slice none 0 0, .slice none 0 0, .int .i64 0, .int .i64 0, .int .i64 0], .int .i64 0, .int .i64 1]) ?_ rfl ?_
  · exact results_row_tmp2 (t := 24) rfl _ _ w.heap.size _ (fr := (0, 0)) _ _ _ rfl rfl rfl HE.out.2.2 Tryd.underlying24 rfl infoHd
  · exact ⟨HE.out.2.1, Or.inl ⟨1, HE.out.1, rfl⟩⟩
/-- spec.Peek at every input. -/
theorem peekT (v : Value) (cl : Int) (xs : List Int) (w : World) (hrow : Row w .u8 v xs) (hB : Bytes xs) (hm : xs.length ≤ 9223372036854775807) :
    Calls Tryd.prog 7 #[v, .int .i64 cl] w fun e w' => PkPost xs cl w e w' := by
  obtain ⟨ao, cap, rfl, hlie⟩ := row_lies hrow
  by_cases h : 65536 < xs.length
  · exact peekT_long ao _ cap cl xs w rfl hm h
  · by_cases h0 : cl < 0
    · exact peekT_low ao _ cap cl xs w rfl (by omega) h0
    · by_cases h8 : 8 < cl
      · exact peekT_high ao _ cap cl xs w rfl (by omega) h8
      · have h1 := peekT_in ao _ cap cl.toNat xs w hlie rfl hB (by omega) (by omega)
        rw [show ((cl.toNat : Nat) : Int) = cl by omega] at h1
        exact h1
abbrev hd0 : Obj := .cells #[.int .i64 0, .int .i64 0, .slice none 0 0, .slice none 0 0, .slice none 0 0, .int .i64 0, .int .i64 0, .int .i64 0] 24
theorem pe_facts {w w1 w2 : World} {P : Obj} (b1 : Below (w.alloc hd0).heap.size (w.alloc hd0) w1) (b2 : Below ((w1.alloc P).drew).heap.size ((w1.alloc P).drew) w2) :
    hdB w2 w.heap.size (.int .i64 0) (.int .i64 0) (.slice none 0 0) (.slice none 0 0) (.slice none 0 0) (.int .i64 0) (.int .i64 0) (.int .i64 0) ∧ w2.heap[w1.heap.size]? = some P ∧ Below w.heap.size w w2 ∧ w1.heap.size ≠ w.heap.size ∧ ∀ t v m L, w1.ownsRow (w.alloc hd0).heap.size t 1 v m L → w2.ownsRow (w.alloc hd0).heap.size t 1 v m L := by
  have hs : (w.alloc hd0).heap.size = w.heap.size + 1 := by simp
  have h1 := b1.size
  rw [hs] at h1
  have hsz : ((w1.alloc P).drew).heap.size = w1.heap.size + 1 := by simp [World.drew]
  have hb0 : Below w.heap.size w (w.alloc hd0) := (Below.refl _ _).alloc (Nat.le_refl _) _
  have hb1 : Below w.heap.size w w1 := hb0.trans (b1.mono hb0.size)
  have hb2 : Below w.heap.size w ((w1.alloc P).drew) := (hb1.alloc hb1.size _).drew
  refine ⟨?_, ?_, ?_, ?_, ?_⟩
  · have e0 := heap_alloc_new w hd0
    have e1 := (b1.block w.heap.size (by omega)).trans e0
    have e2 : ((w1.alloc P).drew).heap[w.heap.size]? = some hd0 := by
      rw [drew_heap, Below.heap_alloc _ _ _ (by omega)]; exact e1
    exact (b2.block w.heap.size (by omega)).trans e2
  · have e2 : ((w1.alloc P).drew).heap[w1.heap.size]? = some P := by
      rw [drew_heap]; exact heap_alloc_new w1 P
    exact (b2.block w1.heap.size (by omega)).trans e2
  · exact hb2.trans (b2.mono hb2.size)
  · omega
  · intro t v m L h
    exact owns_below (owns_drewN (h.alloc P) 1) b2
theorem pe_far {w : World} {g k : Nat} {a0 a1 a2 a3 a4 a5 a6 a7 u : Value} (hg : k ≠ g) (h : w.cell? ⟨k, 10, none⟩ = some u) : (st8 w g a0 a1 a2 a3 a4 a5 a6 a7).cell? ⟨k, 10, none⟩ = some u := by
  have hk : ∀ (W : World) (i : Nat) (x : Value), W.cell? ⟨k, 10, none⟩ = some u → (W.setCell ⟨g, i, none⟩ x).cell? ⟨k, 10, none⟩ = some u := by
    intro W i x hW
    rw [World.cell?, bk_other hg]
    exact hW
  exact hk _ _ _ (hk _ _ _ (hk _ _ _ (hk _ _ _ (hk _ _ _ (hk _ _ _ (hk _ _ _ (hk _ _ _ h)))))))
set_option maxRecDepth 20000 in
set_option maxHeartbeats 8000000 in
theorem implPk_gen (ao : Option Addr) (n cap : Nat) (cl c f v na fin : Int) (ev : Value) (R : World → Option Addr → Nat → Nat → Option Addr → Nat → Nat → Option Addr → Nat → Nat → Prop) (w : World)
    (hp : Calls Tryd.prog 28 #[.slice ao n cap, .int .i64 cl] (w.alloc hd0) fun e w' => Below (w.alloc hd0).heap.size (w.alloc hd0) w' ∧ ∃ da dn dp sa sn sp ta tn tp va vn vp, R w' da dn dp sa sn sp ta tn tp ∧ e = .returned (.tuple #[.agg #[.int .i64 f, .int .i64 v, .slice da dn dp, .slice sa sn sp, .slice ta tn tp, .int .i64 0, .int .i64 0, .int .i64 0, .slice va vn vp, .int .i64 na, .int .i64 fin], ev]))
    (hcd : ∀ W, Below w.heap.size w W → Calls Tryd.prog 29 #[ev] W fun e w' => e = .returned (.int .i64 c) ∧ Below W.heap.size W w') :
    Calls Tryd.prog 9 #[.slice ao n cap, .int .i64 cl] w fun e w' => Below w.heap.size w w' ∧ ∃ w1 da dn dp sa sn sp ta tn tp, R w1 da dn dp sa sn sp ta tn tp ∧ e = .returned (.tuple #[.agg #[.int .i64 f, .int .i64 v, .slice da dn dp, .slice sa sn sp, .slice ta tn tp, .int .i64 0, .int .i64 0, .int .i64 0], .int .i64 fin, .int .i64 c]) ∧ ∀ t u m L, w1.ownsRow (w.alloc hd0).heap.size t 1 u m L → w'.ownsRow w.heap.size t 1 u m L := by
  have HC : Hid _ := And.intro hcd True.intro
  clear hcd
  go_enter Tryd.func9, Tryd.ntmps9
  go_wp2_with fail
  go_at_call 28
  refine hp.mono ?_
  rintro e w1 ⟨b1, da, dn, dp, sa, sn, sp, ta, tn, tp, va, vn, vp, hR, rfl⟩
  have b0 : Below w.heap.size w (w.alloc hd0) := (Below.refl _ _).alloc (Nat.le_refl _) _
  have ba : Below w.heap.size w (w1.alloc (.cells #[.int .i64 f, .int .i64 v, .slice da dn dp, .slice sa sn sp, .slice ta tn tp, .int .i64 0, .int .i64 0, .int .i64 0, .slice va vn vp, .int .i64 na, .int .i64 fin] 46)).drew := by
    have h1 := b0.trans (b1.mono b0.size)
    exact (h1.alloc h1.size _).drew
  have hcd := HC.out.1 _ ba
  have HB : Hid _ := And.intro b1 hR
  clear b1 b0 ba hR hp HC
  go_wp2_with fail
  go_region_with (go_at_call 29; refine hcd.mono ?_; rintro e w2 ⟨rfl, b2⟩; obtain ⟨k0, kp, kb, kn, kt⟩ := pe_facts HB.out.1 b2; have HK : Hid _ := And.intro k0 (And.intro kb (And.intro kt HB.out.2)); obtain ⟨zc0, zc1, zc2, zc3, zc4, zc5, zc6, zc7⟩ := hdB_cells k0; obtain ⟨zf0, zf1, zf2, zf3, zf4, zf5, zf6, zf7⟩ := hdB_free k0; have q0 : w2.cell? ⟨w1.heap.size, 0, none⟩ = some (.int .i64 f) := (bk_cell kp 0).trans rfl; have q1 : w2.cell? ⟨w1.heap.size, 1, none⟩ = some (.int .i64 v) := (bk_cell kp 1).trans rfl; have q2 : w2.cell? ⟨w1.heap.size, 2, none⟩ = some (.slice da dn dp) := (bk_cell kp 2).trans rfl; have q3 : w2.cell? ⟨w1.heap.size, 3, none⟩ = some (.slice sa sn sp) := (bk_cell kp 3).trans rfl; have q4 : w2.cell? ⟨w1.heap.size, 4, none⟩ = some (.slice ta tn tp) := (bk_cell kp 4).trans rfl; have q5 : w2.cell? ⟨w1.heap.size, 5, none⟩ = some (.int .i64 0) := (bk_cell kp 5).trans rfl; have q6 : w2.cell? ⟨w1.heap.size, 6, none⟩ = some (.int .i64 0) := (bk_cell kp 6).trans rfl; have q7 : w2.cell? ⟨w1.heap.size, 7, none⟩ = some (.int .i64 0) := (bk_cell kp 7).trans rfl; have q10 : w2.cell? ⟨w1.heap.size, 10, none⟩ = some (.int .i64 fin) := (bk_cell kp 10).trans rfl; have q10s : (st8 w2 w.heap.size (.int .i64 f) (.int .i64 v) (.slice da dn dp) (.slice sa sn sp) (.slice ta tn tp) (.int .i64 0) (.int .i64 0) (.int .i64 0)).cell? ⟨w1.heap.size, 10, none⟩ = some (.int .i64 fin) := pe_far kn q10; clear k0 kp kb kn kt b2)
  all_goals
    have hN : w.heap.size < (w.alloc hd0).heap.size := by simp
    have hE8 : (st8 w2 w.heap.size (.int .i64 f) (.int .i64 v) (.slice da dn dp) (.slice sa sn sp) (.slice ta tn tp) (.int .i64 0) (.int .i64 0) (.int .i64 0)).heap[w.heap.size]? = _ := st8_heap HK.out.1
    have hB8 : Below w.heap.size w (st8 w2 w.heap.size (.int .i64 f) (.int .i64 v) (.slice da dn dp) (.slice sa sn sp) (.slice ta tn tp) (.int .i64 0) (.int .i64 0) (.int .i64 0)) := st8_below HK.out.2.1 (Nat.le_refl _)
    have hT8 : ∀ t u m L, w1.ownsRow (w.alloc hd0).heap.size t 1 u m L → (st8 w2 w.heap.size (.int .i64 f) (.int .i64 v) (.slice da dn dp) (.slice sa sn sp) (.slice ta tn tp) (.int .i64 0) (.int .i64 0) (.int .i64 0)).ownsRow w.heap.size t 1 u m L := fun t u m L h => owns_mono (st8_owns (HK.out.2.2.1 t u m L h) hN) (Nat.le_of_lt hN)
    have HQ : Hid _ := And.intro hE8 (And.intro hB8 (And.intro hT8 HK.out.2.2.2))
    clear hE8 hB8 hT8 hN zc0 zc1 zc2 zc3 zc4 zc5 zc6 zc7 zf0 zf1 zf2 zf3 zf4 zf5 zf6 zf7 q0 q1 q2 q3 q4 q5 q6 q7 q10 q10s hcd
    go_wp2_with fail
    refine bodyPost_ret (v := .tuple #[.agg #[.int .i64 f, .int .i64 v, .slice da dn dp, .slice sa sn sp, .slice ta tn tp, .int .i64 0, .int .i64 0, .int .i64 0], .int .i64 fin, .int .i64 c]) ?_ rfl ?_
    · exact results_row_tmp2 (t := 24) rfl _ _ w.heap.size _ (fr := (0, 0)) _ _ _ rfl rfl rfl HQ.out.1 Tryd.underlying24 rfl infoHd
    · exact ⟨HQ.out.2.1, w1, da, dn, dp, sa, sn, sp, ta, tn, tp, HQ.out.2.2.2, rfl, HQ.out.2.2.1⟩
theorem implPk (v : Value) (cl : Int) (xs : List Int) (w : World) (ht : T3 w) (hrow : Row w .u8 v xs) (hB : Bytes xs) (hm : xs.length ≤ 9223372036854775807) :
    Calls Tryd.prog 9 #[v, .int .i64 cl] w fun e w' => PkPost xs cl w e w' := by
  obtain ⟨ao, cap, rfl, hlie⟩ := row_lies hrow
  have b0 : Below w.heap.size w (w.alloc hd0) := (Below.refl _ _).alloc (Nat.le_refl _) _
  have t0 := ht.below b0 ht.lt
  have hl0 : xs.length = 0 ∨ ∃ b off, ao = some ⟨b, off, none⟩ ∧ Lies (w.alloc hd0) b off xs.length cap xs := hlie.imp id (fun ⟨b, off, h1, h2⟩ => ⟨b, off, h1, h2.below b0⟩)
  cases hp : pk xs cl with
  | error c =>
    have h1 := peek_bad ao _ cap cl c xs _ t0.tab t0.tabL hl0 rfl hB hm hp
    have h2 := implPk_gen ao xs.length cap cl c 0 0 0 0 (faultV c) (fun _ da dn dp sa sn sp ta tn tp => da = none ∧ dn = 0 ∧ dp = 0 ∧ sa = none ∧ sn = 0 ∧ sp = 0 ∧ ta = none ∧ tn = 0 ∧ tp = 0) w
      (h1.mono (by rintro e w' ⟨g1, rfl⟩; exact ⟨g1, none, 0, 0, none, 0, 0, none, 0, 0, none, 0, 0, ⟨rfl, rfl, rfl, rfl, rfl, rfl, rfl, rfl, rfl⟩, rfl⟩))
      (fun W hW => codeC_fault c W (ht.err.below hW ht.err.lt))
    refine h2.mono ?_
    rintro e w' ⟨g1, w1, da, dn, dp, sa, sn, sp, ta, tn, tp, ⟨rfl, rfl, rfl, rfl, rfl, rfl, rfl, rfl, rfl⟩, rfl, _⟩
    exact ⟨g1, Or.inl ⟨c, hp, rfl⟩⟩
  | ok K =>
    have h1 := peek_ok ao _ cap cl K xs _ t0.tab t0.tabL hl0 rfl hB hm hp
    have h2 := implPk_gen ao xs.length cap cl 0 K.f K.v K.na K.fin .nilIface (fun w1 da dn dp sa sn sp ta tn tp => HOwn w1 (w.alloc hd0).heap.size (.slice da dn dp) (.slice sa sn sp) (.slice ta tn tp) ⟨K.f, K.v, K.d, K.s, K.t, 0, 0, 0⟩) w
      (h1.mono (by
        rintro e w' ⟨g1, vd, vs, vt, vv, rfl, q2, q3⟩
        obtain ⟨da, dp, ed⟩ := (row_of_owns q2.o0).form
        obtain ⟨sa, sp, es⟩ := (row_of_owns q2.o1).form
        obtain ⟨ta, tp, et⟩ := (row_of_owns q2.o2).form
        obtain ⟨va, vp, ev⟩ := (row_of_owns (k := .i64) q3).form
        subst ed es et ev
        exact ⟨g1, _, _, _, _, _, _, _, _, _, _, _, _, q2, rfl⟩))
      (fun W hW => codeC_nil W)
    refine h2.mono ?_
    rintro e w' ⟨g1, w1, da, dn, dp, sa, sn, sp, ta, tn, tp, q, rfl, tr⟩
    exact ⟨g1, Or.inr ⟨K, _, _, _, hp, rfl, ⟨tr _ _ _ _ q.o0, tr _ _ _ _ q.o1, tr _ _ _ _ q.o2, q.a01, q.a02, q.a12⟩⟩⟩
def pkH (xs : List Int) (cl : Int) : H8 := match pk xs cl with | .ok K => ⟨K.f, K.v, K.d, K.s, K.t, 0, 0, 0⟩ | .error _ => ⟨0, 0, [], [], [], 0, 0, 0⟩
def pkEnd (xs : List Int) (cl : Int) : Int := match pk xs cl with | .ok K => (K.fin : Int) | .error _ => 0
def pkCode (xs : List Int) (cl : Int) : Int := match pk xs cl with | .ok _ => 0 | .error c => c
theorem pkH_small (xs : List Int) (cl : Int) : (pkH xs cl).small 1048576 := by
  unfold pkH
  split
  · rename_i K hK
    obtain ⟨h1, h2, h3⟩ := pk_small hK
    exact ⟨Nat.le_trans h1 (by decide), Nat.le_trans h2 (by decide), Nat.le_trans h3 (by decide)⟩
  · exact ⟨Nat.zero_le _, Nat.zero_le _, Nat.zero_le _⟩
theorem pk_apart (v : Value) : Apart (.slice none 0 0) v := fun g h => by simp [Value.ownBlock] at h
theorem pkPost_own {xs : List Int} {cl : Int} {w w' : World} {e : Ending} (h : PkPost xs cl w e w') : ∃ r, e = .returned (.tuple #[r, .int .i64 (pkEnd xs cl), .int .i64 (pkCode xs cl)]) ∧ HOwns w' w.heap.size r (pkH xs cl) ∧ Below w.heap.size w w' := by
  obtain ⟨hb, ⟨c, hc, rfl⟩ | ⟨K, vd, vs, vt, hc, rfl, ho⟩⟩ := h
  · have e1 : pkH xs cl = ⟨0, 0, [], [], [], 0, 0, 0⟩ := by unfold pkH; rw [hc]
    have e2 : pkEnd xs cl = 0 := by unfold pkEnd; rw [hc]
    have e3 : pkCode xs cl = c := by unfold pkCode; rw [hc]
    rw [e1, e2, e3]
    exact ⟨_, rfl, ⟨_, _, _, rfl, ⟨World.ownsRow_nil _ _ _ _, World.ownsRow_nil _ _ _ _, World.ownsRow_nil _ _ _ _, pk_apart _, pk_apart _, pk_apart _⟩⟩, hb⟩
  · have e1 : pkH xs cl = ⟨K.f, K.v, K.d, K.s, K.t, 0, 0, 0⟩ := by unfold pkH; rw [hc]
    have e2 : pkEnd xs cl = (K.fin : Int) := by unfold pkEnd; rw [hc]
    have e3 : pkCode xs cl = 0 := by unfold pkCode; rw [hc]
    rw [e1, e2, e3]
    exact ⟨_, rfl, ⟨_, _, _, rfl, ho⟩, hb⟩
theorem fnExactPeek_walk (v : Value) (xs : List Int) (a : Int) (hl : xs.length ≤ maxLen) (hwf : ∀ x ∈ xs, (Lit.int .u8 x).wf = true) (wfa : (Lit.int .i64 a).wf = true) (w : World) (hrow : Row w .u8 v xs) (ht : T3 w) :
    Calls Tryd.prog 3 #[v, .int .i64 a] w fun e w' => e = .returned (.bool true) ∧ Below w.heap.size w w' := by
  have hm : xs.length ≤ 9223372036854775807 := by unfold maxLen at hl; omega
  have hB := bytes_of_wf hwf
  refine peek_walkOf v xs a (pkH xs a) (pkEnd xs a) (pkCode xs a) w T3 (fun w' hb => ht.below hb ht.lt) hl hwf wfa hrow (pkH_small xs a) ?_ ?_
  · intro w u r
    exact (peekT u a xs w r hB hm).mono (fun e w' h => pkPost_own h)
  · intro w u tw r
    exact (implPk u a xs w tw r hB hm).mono (fun e w' h => pkPost_own h)
end Go.Proofs.YtbbiinbjgognjaaDoor
