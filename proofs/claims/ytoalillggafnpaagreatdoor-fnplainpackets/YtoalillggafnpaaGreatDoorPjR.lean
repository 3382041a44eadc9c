import Derived.Test.YtoalillggafnpaaGreatDoorPjG
import Derived.Test.YtoalillggafnpaaGreatDoorPjA
import Derived.Test.YtoalillggafnpaaGreatDoorPjK
import Derived.Test.YtoalillggafnpaaGreatDoorPjQ
import Derived.Test.YtoalillggafnpaaGreatDoorPjM
import Derived.Test.YtoalillggafnpaaGreatDoorPjB
namespace Go.Proofs.YtoalillggafnpaaGreatDoor
open Go.RowKit
set_option linter.unusedVariables false

set_option maxRecDepth 20000 in
set_option maxHeartbeats 1000000 in
theorem roS_long (ao ap : Option Addr) (n cap m cp : Nat) (w : World) (hn : n ≤ 9223372036854775807) (h : 65536 < n) :
    Calls Tryz.prog 10 #[.slice ao n cap, .slice ap m cp] w fun e w' => e = .returned (.tuple #[.agg #[.int .i64 0, .int .i64 0, .slice none 0 0, .slice none 0 0, .slice none 0 0, .int .i64 0, .int .i64 0, .int .i64 0], .int .i64 4]) ∧ Below w.heap.size w w' := by
  have hb : Below w.heap.size w (w.alloc hd0) := (Below.refl _ _).alloc (Nat.le_refl _) _
  have hh := heap_alloc_new w hd0
  have d : decide ((65536 : Int) < (n : Int)) = true := decide_eq_true (by omega)
  have HE : Hid _ := And.intro hb hh
  clear hb hh hn h
  go_enter Tryz.func10, Tryz.ntmps10
  go_wp2_with fail
  refine bodyPost_ret (v := .tuple #[.agg #[.int .i64 0, .int .i64 0, .slice none 0 0, .slice none 0 0, .slice none 0 0, .int .i64 0, .int .i64 0, .int .i64 0], .int .i64 4]) ?_ rfl ?_
  · exact results_row_tmpP (t := 24) rfl _ _ w.heap.size _ (fr := (0, 0)) _ _ rfl rfl HE.out.2 Tryz.underlying24 rfl infoHd
  · exact ⟨rfl, HE.out.1⟩

set_option maxRecDepth 20000 in
set_option maxHeartbeats 1000000 in
theorem roS_bad (ao ap : Option Addr) (n cap m cp : Nat) (w : World) (hn : n ≤ 65536) (hm : m ≤ 9223372036854775807) (h : 8 < m) :
    Calls Tryz.prog 10 #[.slice ao n cap, .slice ap m cp] w fun e w' => e = .returned (.tuple #[.agg #[.int .i64 0, .int .i64 0, .slice none 0 0, .slice none 0 0, .slice none 0 0, .int .i64 0, .int .i64 0, .int .i64 0], .int .i64 1]) ∧ Below w.heap.size w w' := by
  have hb : Below w.heap.size w (w.alloc hd0) := (Below.refl _ _).alloc (Nat.le_refl _) _
  have hh := heap_alloc_new w hd0
  have d : decide ((65536 : Int) < (n : Int)) = false := decide_eq_false (by omega)
  have d1 : decide ((8 : Int) < (m : Int)) = true := decide_eq_true (by omega)
  have HE : Hid _ := And.intro hb hh
  clear hb hh hn h hm
  go_enter Tryz.func10, Tryz.ntmps10
  go_wp2_with fail
  refine bodyPost_ret (v := .tuple #[.agg #[.int .i64 0, .int .i64 0, .slice none 0 0, .slice none 0 0, .slice none 0 0, .int .i64 0, .int .i64 0, .int .i64 0], .int .i64 1]) ?_ rfl ?_
  · exact results_row_tmpP (t := 24) rfl _ _ w.heap.size _ (fr := (0, 0)) _ _ rfl rfl HE.out.2 Tryz.underlying24 rfl infoHd
  · exact ⟨rfl, HE.out.1⟩

set_option maxRecDepth 20000 in
set_option maxHeartbeats 1000000 in
theorem roS_err (ao ap : Option Addr) (n cap m cp : Nat) (c : Int) (xs : List Int) (w : World) (hn : n ≤ 65536) (hm : m ≤ 8) (hlie : n = 0 ∨ ∃ b off, ao = some ⟨b, off, none⟩ ∧ Lies w b off n cap xs) (hlen : xs.length = n) (hB : Bytes xs) (hc : pk xs 0 = .error c) :
    Calls Tryz.prog 10 #[.slice ao n cap, .slice ap m cp] w fun e w' => e = .returned (.tuple #[.agg #[.int .i64 0, .int .i64 0, .slice none 0 0, .slice none 0 0, .slice none 0 0, .int .i64 0, .int .i64 0, .int .i64 0], .int .i64 c]) ∧ Below w.heap.size w w' := by
  have hb : Below w.heap.size w (w.alloc hd0) := (Below.refl _ _).alloc (Nat.le_refl _) _
  have hh := heap_alloc_new w hd0
  have hp := peekS ao n cap 0 xs (w.alloc hd0) (hlie.imp id (fun ⟨b, off, h1, h2⟩ => ⟨b, off, h1, h2.below hb⟩)) hlen hB hn (by omega)
  have d : decide ((65536 : Int) < (n : Int)) = false := decide_eq_false (by omega)
  have d1 : decide ((8 : Int) < (m : Int)) = false := decide_eq_false (by omega)
  have d0 : (c != 0) = true := by have := pk_err hc; simp [this]
  have HE : Hid _ := And.intro hb (And.intro hh hc)
  clear hb hh hn hm hlie hlen hB hc
  go_enter Tryz.func10, Tryz.ntmps10
  go_wp2_with fail
  go_at_call 38
  refine hp.mono ?_
  rintro e w1 ⟨b1, ⟨c', hc', rfl⟩ | ⟨K, vd, vs, vt, hc', _⟩⟩
  rotate_left
  · have h2 := HE.out.2.2.symm.trans hc'; cases h2
  obtain rfl : c' = c := by have h2 := hc'.symm.trans HE.out.2.2; cases h2; rfl
  have k0 : ∀ o, hdB (w1.alloc o) w.heap.size (.int .i64 0) (.int .i64 0) (.slice none 0 0) (.slice none 0 0) (.slice none 0 0) (.int .i64 0) (.int .i64 0) (.int .i64 0) := fun o => by
    have e1 := (b1.block w.heap.size (by simp)).trans HE.out.2.1
    exact (Below.heap_alloc _ _ _ ((Array.getElem?_eq_some_iff.1 e1).1)).trans e1
  have kb : ∀ o, Below w.heap.size w (w1.alloc o) := fun o => by
    have h1 := HE.out.1.trans (b1.mono HE.out.1.size)
    exact h1.alloc h1.size o
  obtain ⟨zc0, zc1, zc2, zc3, zc4, zc5, zc6, zc7⟩ := hdB_cells (k0 hd0)
  obtain ⟨zf0, zf1, zf2, zf3, zf4, zf5, zf6, zf7⟩ := hdB_free (k0 hd0)
  have HQ : Hid _ := And.intro (st8_heap (a0 := .int .i64 0) (a1 := .int .i64 0) (a2 := .slice none 0 0) (a3 := .slice none 0 0) (a4 := .slice none 0 0) (a5 := .int .i64 0) (a6 := .int .i64 0) (a7 := .int .i64 0) (k0 hd0)) (st8_below (a0 := .int .i64 0) (a1 := .int .i64 0) (a2 := .slice none 0 0) (a3 := .slice none 0 0) (a4 := .slice none 0 0) (a5 := .int .i64 0) (a6 := .int .i64 0) (a7 := .int .i64 0) (kb hd0) (Nat.le_refl w.heap.size))
  clear k0 kb b1 hp
  go_wp2_with fail
  refine bodyPost_ret (v := .tuple #[.agg #[.int .i64 0, .int .i64 0, .slice none 0 0, .slice none 0 0, .slice none 0 0, .int .i64 0, .int .i64 0, .int .i64 0], .int .i64 c']) ?_ rfl ?_
  · exact results_row_tmpP (t := 24) rfl _ _ w.heap.size _ (fr := (0, 0)) _ _ rfl rfl HQ.out.1 Tryz.underlying24 rfl infoHd
  · exact ⟨rfl, HQ.out.2⟩

set_option maxRecDepth 20000 in
set_option maxHeartbeats 1000000 in
theorem roS_form (ao ap : Option Addr) (n cap m cp : Nat) (K : PK) (xs : List Int) (w : World) (hn : n ≤ 65536) (hm : m ≤ 8) (hlie : n = 0 ∨ ∃ b off, ao = some ⟨b, off, none⟩ ∧ Lies w b off n cap xs) (hlen : xs.length = n) (hB : Bytes xs) (hc : pk xs 0 = .ok K) (h3 : K.f ≠ 3) :
    Calls Tryz.prog 10 #[.slice ao n cap, .slice ap m cp] w fun e w' => e = .returned (.tuple #[.agg #[.int .i64 0, .int .i64 0, .slice none 0 0, .slice none 0 0, .slice none 0 0, .int .i64 0, .int .i64 0, .int .i64 0], .int .i64 3]) ∧ Below w.heap.size w w' := by
  have hb : Below w.heap.size w (w.alloc hd0) := (Below.refl _ _).alloc (Nat.le_refl _) _
  have hh := heap_alloc_new w hd0
  have hp := peekS ao n cap 0 xs (w.alloc hd0) (hlie.imp id (fun ⟨b, off, h1, h2⟩ => ⟨b, off, h1, h2.below hb⟩)) hlen hB hn (by omega)
  have d : decide ((65536 : Int) < (n : Int)) = false := decide_eq_false (by omega)
  have d1 : decide ((8 : Int) < (m : Int)) = false := decide_eq_false (by omega)
  have d3 : (K.f != 3) = true := by simp [h3]
  have HE : Hid _ := And.intro hb (And.intro hh hc)
  clear hb hh hn hm hlie hlen hB hc h3
  go_enter Tryz.func10, Tryz.ntmps10
  go_wp2_with fail
  go_at_call 38
  refine hp.mono ?_
  rintro e w1 ⟨b1, ⟨c', hc', _⟩ | ⟨K', vd, vs, vt, hc', rfl, ho⟩⟩
  · have h2 := HE.out.2.2.symm.trans hc'; cases h2
  obtain rfl : K' = K := by have h2 := hc'.symm.trans HE.out.2.2; cases h2; rfl
  have k0 : ∀ o, hdB (w1.alloc o) w.heap.size (.int .i64 0) (.int .i64 0) (.slice none 0 0) (.slice none 0 0) (.slice none 0 0) (.int .i64 0) (.int .i64 0) (.int .i64 0) := fun o => by
    have e1 := (b1.block w.heap.size (by simp)).trans HE.out.2.1
    exact (Below.heap_alloc _ _ _ ((Array.getElem?_eq_some_iff.1 e1).1)).trans e1
  have kb : ∀ o, Below w.heap.size w (w1.alloc o) := fun o => by
    have h1 := HE.out.1.trans (b1.mono HE.out.1.size)
    exact h1.alloc h1.size o
  obtain ⟨da, dp, ed⟩ := (row_of_owns ho.o0).form
  obtain ⟨sa, sp, es⟩ := (row_of_owns ho.o1).form
  obtain ⟨ta, tp, et⟩ := (row_of_owns ho.o2).form
  dsimp only at ed es et
  subst ed es et
  obtain ⟨zc0, zc1, zc2, zc3, zc4, zc5, zc6, zc7⟩ := hdB_cells (k0 (.cells #[.int .i64 K'.f, .int .i64 K'.v, .slice da K'.d.length dp, .slice sa K'.s.length sp, .slice ta K'.t.length tp, .int .i64 0, .int .i64 0, .int .i64 0] 24))
  obtain ⟨zf0, zf1, zf2, zf3, zf4, zf5, zf6, zf7⟩ := hdB_free (k0 (.cells #[.int .i64 K'.f, .int .i64 K'.v, .slice da K'.d.length dp, .slice sa K'.s.length sp, .slice ta K'.t.length tp, .int .i64 0, .int .i64 0, .int .i64 0] 24))
  have HQ : Hid _ := And.intro (st8_heap (a0 := .int .i64 0) (a1 := .int .i64 0) (a2 := .slice none 0 0) (a3 := .slice none 0 0) (a4 := .slice none 0 0) (a5 := .int .i64 0) (a6 := .int .i64 0) (a7 := .int .i64 0) (k0 (.cells #[.int .i64 K'.f, .int .i64 K'.v, .slice da K'.d.length dp, .slice sa K'.s.length sp, .slice ta K'.t.length tp, .int .i64 0, .int .i64 0, .int .i64 0] 24))) (st8_below (a0 := .int .i64 0) (a1 := .int .i64 0) (a2 := .slice none 0 0) (a3 := .slice none 0 0) (a4 := .slice none 0 0) (a5 := .int .i64 0) (a6 := .int .i64 0) (a7 := .int .i64 0) (kb (.cells #[.int .i64 K'.f, .int .i64 K'.v, .slice da K'.d.length dp, .slice sa K'.s.length sp, .slice ta K'.t.length tp, .int .i64 0, .int .i64 0, .int .i64 0] 24)) (Nat.le_refl w.heap.size))
  clear k0 kb b1 hp ho
  go_wp2_with fail
  refine bodyPost_ret (v := .tuple #[.agg #[.int .i64 0, .int .i64 0, .slice none 0 0, .slice none 0 0, .slice none 0 0, .int .i64 0, .int .i64 0, .int .i64 0], .int .i64 3]) ?_ rfl ?_
  · exact results_row_tmpP (t := 24) rfl _ _ w.heap.size _ (fr := (0, 0)) _ _ rfl rfl HQ.out.1 Tryz.underlying24 rfl infoHd
  · exact ⟨rfl, HQ.out.2⟩

end Go.Proofs.YtoalillggafnpaaGreatDoor

namespace Go.Proofs.YtoalillggafnpaaGreatDoor
open Go.RowKit
set_option linter.unusedVariables false

theorem cid_le8 {xs d : List Int} {p q : Nat} (h : pkCid xs p = .ok (d, q)) : d.length ≤ 8 := by
  unfold pkCid at h
  split at h
  · cases h
  · split at h
    · cases h
    · split at h
      · cases h
      · rename_i h1 h2 h3
        cases h
        rw [sub_len xs (p + 1) _ (by omega)]
        omega
theorem ret_len {xs t : List Int} {p : Nat} (h : pkRet xs p = .ok t) : p + 9 ≤ xs.length ∧ xs.length ≤ p + 72 := by
  unfold pkRet at h
  split at h
  · cases h
  · split at h
    · cases h
    · omega
theorem tail_ret {xs d s : List Int} {f v : Int} {p : Nat} {K : PK} (h : pkTail xs f v d s p = .ok K) (h3 : K.f = 3) : p + 9 ≤ xs.length ∧ xs.length ≤ p + 72 := by
  unfold pkTail at h
  split at h
  · split at h
    · cases h
    · split at h
      · cases h
      · cases h; simp at h3
  · split at h
    · split at h
      · cases h
      · rename_i hb; exact ret_len hb
    · split at h
      · have := ini_form h; omega
      · split at h
        · split at h
          · cases h
          · cases h; simp at h3
        · cases h
/-- How long a retry packet is. -/
theorem pk_retry {xs : List Int} {cl : Int} {K : PK} (h : pk xs cl = .ok K) (h3 : K.f = 3) : 16 ≤ xs.length ∧ xs.length ≤ 95 := by
  unfold pk at h
  split at h
  · cases h
  · rename_i h16
    split at h
    · cases h
    · split at h
      · cases h
      · split at h
        · cases h
        · split at h
          · unfold pkShP at h
            split at h
            · cases h
            · cases h; simp at h3
          · unfold pkLong at h
            split at h
            · cases h
            · split at h
              · cases h
              · rename_i d p1 hc1
                split at h
                · cases h
                · rename_i s p2 hc2
                  have t1 := tail_ret h h3
                  obtain ⟨a1, a2⟩ := cid_spec hc1
                  obtain ⟨b1, b2⟩ := cid_spec hc2
                  have l1 := cid_le8 hc1
                  have l2 := cid_le8 hc2
                  omega
end Go.Proofs.YtoalillggafnpaaGreatDoor

namespace Go.Proofs.YtoalillggafnpaaGreatDoor
open Go.RowKit
set_option linter.unusedVariables false

theorem HOwn.st8T {w : World} {base base' g : Nat} {v2 v3 v4 a0 a1 a2 a3 a4 a5 a6 a7 : Value} {h : H8} (k : HOwn w base v2 v3 v4 h) (hg : g < base) (hb : base' ≤ base) : HOwn (st8 w g a0 a1 a2 a3 a4 a5 a6 a7) base' v2 v3 v4 h :=
  ⟨owns_mono (st8_owns k.o0 hg) hb, owns_mono (st8_owns k.o1 hg) hb, owns_mono (st8_owns k.o2 hg) hb, k.a01, k.a02, k.a12⟩
theorem HOwn.belowR {w w' : World} {base : Nat} {v2 v3 v4 : Value} {h : H8} (k : HOwn w base v2 v3 v4 h) (hb : Below w.heap.size w w') : HOwn w' base v2 v3 v4 h :=
  ⟨owns_below k.o0 hb, owns_below k.o1 hb, owns_below k.o2 hb, k.a01, k.a02, k.a12⟩
theorem digV_bytesR (o p : List Int) : Bytes (retV o p) := fun x hx => digV_bytes _ _ x (List.mem_of_mem_take hx)

set_option maxRecDepth 200000 in
set_option maxHeartbeats 8000000 in
theorem roT_ok (b off q cap : Nat) (ap : Option Addr) (m cp : Nat) (K : PK) (xs o : List Int) (w : World) (hq : q ≤ 87) (hm : m ≤ 8) (hlie : Lies w b off (q + 8) cap xs) (hB : Bytes xs) (ro : Row w .u8 (.slice ap m cp) o) (eo : o.length = m) (bo : Bytes o) (hc : pk xs 0 = .ok K) (h3 : K.f = 3) (heq : retV o (xs.take q) = xs.drop q) :
    Calls Tryz.prog 10 #[.slice (some ⟨b, off, none⟩) (q + 8) cap, .slice ap m cp] w fun e w' => ∃ vd vs vt, e = .returned (.tuple #[.agg #[.int .i64 K.f, .int .i64 K.v, vd, vs, vt, .int .i64 0, .int .i64 0, .int .i64 0], .int .i64 0]) ∧ HOwn w' w.heap.size vd vs vt ⟨K.f, K.v, K.d, K.s, K.t, 0, 0, 0⟩ ∧ Below w.heap.size w w' := by
  have hb : Below w.heap.size w (w.alloc hd0) := (Below.refl _ _).alloc (Nat.le_refl _) _
  have hh := heap_alloc_new w hd0
  have hp := peekS (some ⟨b, off, none⟩) (q + 8) cap 0 xs (w.alloc hd0) (Or.inr ⟨b, off, rfl, hlie.below hb⟩) hlie.len hB (by omega) (by omega)
  have d : decide ((65536 : Int) < (q : Int) + 8) = false := decide_eq_false (by omega)
  have d1 : decide ((8 : Int) < (m : Int)) = false := decide_eq_false (by omega)
  have d3 : (K.f != 3) = false := by simp [h3]
  have hcap : cap ≤ 9223372036854775807 := Nat.le_trans hlie.most (by decide)
  have hfit : q + 8 ≤ cap := hlie.fits
  have hne : ¬ cap = q := by omega
  have hpn : (q : Int) ≤ (cap : Int) := by omega
  have hpn8 : (q : Int) ≤ (q : Int) + 8 := by omega
  have rP : Row w .u8 (.slice (some ⟨b, off, none⟩) q cap) (xs.take q) := by
    have := hlie.row 0 q (by omega)
    simpa using this
  have rT : Row w .u8 (.slice (some ⟨b, off + q, none⟩) 8 (cap - q)) (xs.drop q) := by
    have := hlie.row q 8 (by omega)
    rw [List.take_of_length_le (by rw [List.length_drop, hlie.len]; omega)] at this
    exact this
  have bP : Bytes (xs.take q) := fun x hx => hB x (List.mem_of_mem_take hx)
  have bT : Bytes (xs.drop q) := fun x hx => hB x (List.mem_of_mem_drop hx)
  have lP : (xs.take q).length = q := by rw [List.length_take, hlie.len]; omega
  have lT : (xs.drop q).length = 8 := by rw [List.length_drop, hlie.len]; omega
  have HE : Hid _ := And.intro hb (And.intro hh (And.intro hc (And.intro ro (And.intro rP (And.intro rT (And.intro bP (And.intro lP (And.intro lT (And.intro eo (And.intro bo (And.intro hm hq)))))))))))
  have HS : Hid _ := And.intro heq True.intro
  clear hb hh hm hlie hB hc h3 hq ro rP rT bP bT lP lT eo bo heq
  go_enter Tryz.func10, Tryz.ntmps10
  go_wp2_with fail
  go_at_call 38
  refine hp.mono ?_
  clear hp
  rintro e w1 ⟨b1, ⟨c', hc', _⟩ | ⟨K', vd, vs, vt, hc', rfl, ho⟩⟩
  · have h2 := HE.out.2.2.1.symm.trans hc'; cases h2
  obtain rfl : K = K' := by have h2 := HE.out.2.2.1.symm.trans hc'; cases h2; rfl
  clear hc'
  obtain ⟨da, dp, ed⟩ := (row_of_owns ho.o0).form
  obtain ⟨sa, sp, es⟩ := (row_of_owns ho.o1).form
  obtain ⟨ta, tp, et⟩ := (row_of_owns ho.o2).form
  dsimp only at ed es et
  subst ed es et
  have B1 : Below w.heap.size w w1 := HE.out.1.trans (b1.mono HE.out.1.size)
  have e1 := (b1.block w.heap.size (by simp)).trans HE.out.2.1
  have l1 : w.heap.size < w1.heap.size := (Array.getElem?_eq_some_iff.1 e1).1
  have A1 : Below w1.heap.size w1 (w1.alloc (.cells #[.int .i64 K.f, .int .i64 K.v, .slice da K.d.length dp, .slice sa K.s.length sp, .slice ta K.t.length tp, .int .i64 0, .int .i64 0, .int .i64 0] 24)) := (Below.refl _ _).alloc (Nat.le_refl _) _
  have kH : hdB (w1.alloc (.cells #[.int .i64 K.f, .int .i64 K.v, .slice da K.d.length dp, .slice sa K.s.length sp, .slice ta K.t.length tp, .int .i64 0, .int .i64 0, .int .i64 0] 24)) w1.heap.size (.int .i64 K.f) (.int .i64 K.v) (.slice da K.d.length dp) (.slice sa K.s.length sp) (.slice ta K.t.length tp) (.int .i64 0) (.int .i64 0) (.int .i64 0) := heap_alloc_new w1 _
  have k0 : hdB (w1.alloc (.cells #[.int .i64 K.f, .int .i64 K.v, .slice da K.d.length dp, .slice sa K.s.length sp, .slice ta K.t.length tp, .int .i64 0, .int .i64 0, .int .i64 0] 24)) w.heap.size (.int .i64 0) (.int .i64 0) (.slice none 0 0) (.slice none 0 0) (.slice none 0 0) (.int .i64 0) (.int .i64 0) (.int .i64 0) := (A1.block w.heap.size l1).trans e1
  have BW : Below w.heap.size w (w1.alloc (.cells #[.int .i64 K.f, .int .i64 K.v, .slice da K.d.length dp, .slice sa K.s.length sp, .slice ta K.t.length tp, .int .i64 0, .int .i64 0, .int .i64 0] 24)) := B1.trans (A1.mono B1.size)
  have ho2 := ho.belowR A1
  have lb : (w.alloc hd0).heap.size = w.heap.size + 1 := by simp
  rw [lb] at ho2
  have H0 : Hid _ := And.intro kH (And.intro k0 (And.intro BW ho2))
  clear kH k0 BW ho2 A1 e1 B1 ho b1 lb l1
  go_wp2_with fail
  generalize w1.alloc (.cells #[.int .i64 K.f, .int .i64 K.v, .slice da K.d.length dp, .slice sa K.s.length sp, .slice ta K.t.length tp, .int .i64 0, .int .i64 0, .int .i64 0] 24) = W1 at H0 ⊢
  have D : Below W1.heap.size W1 W1.drew := (Below.refl _ _).drew
  have BW : Below w.heap.size w W1.drew := H0.out.2.2.1.drew
  have CT := rtagC ap (some ⟨b, off, none⟩) m q cp cap o (xs.take q) W1.drew (HE.out.2.2.2.1.below BW) (HE.out.2.2.2.2.1.below BW) HE.out.2.2.2.2.2.2.2.2.2.1 HE.out.2.2.2.2.2.2.2.1 HE.out.2.2.2.2.2.2.2.2.2.2.2.1 (by have := HE.out.2.2.2.2.2.2.2.2.2.2.2.2; omega) HE.out.2.2.2.2.2.2.2.2.2.2.1 HE.out.2.2.2.2.2.2.1
  have v0 := conv_rowR Tryz.underlying22 Tryz.underlying5 Tryz.underlying9 (HE.out.2.2.2.2.2.1.below BW) (by have := HE.out.2.2.2.2.2.2.2.2.1; omega)
  have H1 : Hid _ := And.intro CT (And.intro ((D.block w1.heap.size (Array.getElem?_eq_some_iff.1 H0.out.1).1).trans H0.out.1) (And.intro ((D.block w.heap.size (Array.getElem?_eq_some_iff.1 H0.out.2.1).1).trans H0.out.2.1) (And.intro BW (H0.out.2.2.2.belowR D))))
  clear CT BW D H0

  go_region_with (first | (go_at_call 35; refine H1.out.1.mono ?_; rintro e w2 ⟨r, rfl, rr, b2⟩; obtain ⟨ra, rp, er⟩ := rr.form; rw [retV_length] at er; subst er; have v1 := conv_rowR Tryz.underlying22 Tryz.underlying5 Tryz.underlying9 rr (by rw [retV_length]; decide); have v2 := conv_rowR Tryz.underlying22 Tryz.underlying5 Tryz.underlying9 ((HE.out.2.2.2.2.2.1.below H1.out.2.2.2.1).below b2) (by have := HE.out.2.2.2.2.2.2.2.2.1; omega); rw [HS.out.1] at v1; have kH2 := (b2.block w1.heap.size (Array.getElem?_eq_some_iff.1 H1.out.2.1).1).trans H1.out.2.1; have k02 := (b2.block w.heap.size (Array.getElem?_eq_some_iff.1 H1.out.2.2.1).1).trans H1.out.2.2.1; have H2 : Hid _ := And.intro k02 (And.intro (H1.out.2.2.2.1.trans (b2.mono H1.out.2.2.2.1.size)) (H1.out.2.2.2.2.belowR b2)); obtain ⟨yc0, yc1, yc2, yc3, yc4, yc5, yc6, yc7⟩ := hdB_cells kH2; obtain ⟨zc0, zc1, zc2, zc3, zc4, zc5, zc6, zc7⟩ := hdB_cells k02; obtain ⟨zf0, zf1, zf2, zf3, zf4, zf5, zf6, zf7⟩ := hdB_free k02; clear kH2 k02 b2 rr))
  all_goals
    go_wp2_with fail
    refine bodyPost_ret (v := .tuple #[.agg #[.int .i64 K.f, .int .i64 K.v, .slice da K.d.length dp, .slice sa K.s.length sp, .slice ta K.t.length tp, .int .i64 0, .int .i64 0, .int .i64 0], .int .i64 0]) ?_ rfl ?_
    · exact results_row_tmpP (t := 24) rfl _ _ w.heap.size _ (fr := (0, 0)) _ _ rfl rfl (st8_heap (a0 := .int .i64 K.f) (a1 := .int .i64 K.v) (a2 := .slice da K.d.length dp) (a3 := .slice sa K.s.length sp) (a4 := .slice ta K.t.length tp) (a5 := .int .i64 0) (a6 := .int .i64 0) (a7 := .int .i64 0) H2.out.1) Tryz.underlying24 rfl infoHd
    · exact ⟨_, _, _, rfl, H2.out.2.2.st8T (Nat.lt_succ_self _) (Nat.le_succ _), st8_below (a0 := .int .i64 K.f) (a1 := .int .i64 K.v) (a2 := .slice da K.d.length dp) (a3 := .slice sa K.s.length sp) (a4 := .slice ta K.t.length tp) (a5 := .int .i64 0) (a6 := .int .i64 0) (a7 := .int .i64 0) H2.out.2.1 (Nat.le_refl _)⟩
set_option maxRecDepth 200000 in
set_option maxHeartbeats 8000000 in
theorem roT_bad (b off q cap : Nat) (ap : Option Addr) (m cp : Nat) (K : PK) (xs o : List Int) (w : World) (hq : q ≤ 87) (hm : m ≤ 8) (hlie : Lies w b off (q + 8) cap xs) (hB : Bytes xs) (ro : Row w .u8 (.slice ap m cp) o) (eo : o.length = m) (bo : Bytes o) (hc : pk xs 0 = .ok K) (h3 : K.f = 3) (heq : retV o (xs.take q) ≠ xs.drop q) :
    Calls Tryz.prog 10 #[.slice (some ⟨b, off, none⟩) (q + 8) cap, .slice ap m cp] w fun e w' => e = .returned (.tuple #[.agg #[.int .i64 0, .int .i64 0, .slice none 0 0, .slice none 0 0, .slice none 0 0, .int .i64 0, .int .i64 0, .int .i64 0], .int .i64 13]) ∧ Below w.heap.size w w' := by
  have hb : Below w.heap.size w (w.alloc hd0) := (Below.refl _ _).alloc (Nat.le_refl _) _
  have hh := heap_alloc_new w hd0
  have hp := peekS (some ⟨b, off, none⟩) (q + 8) cap 0 xs (w.alloc hd0) (Or.inr ⟨b, off, rfl, hlie.below hb⟩) hlie.len hB (by omega) (by omega)
  have d : decide ((65536 : Int) < (q : Int) + 8) = false := decide_eq_false (by omega)
  have d1 : decide ((8 : Int) < (m : Int)) = false := decide_eq_false (by omega)
  have d3 : (K.f != 3) = false := by simp [h3]
  have hcap : cap ≤ 9223372036854775807 := Nat.le_trans hlie.most (by decide)
  have hfit : q + 8 ≤ cap := hlie.fits
  have hne : ¬ cap = q := by omega
  have hpn : (q : Int) ≤ (cap : Int) := by omega
  have hpn8 : (q : Int) ≤ (q : Int) + 8 := by omega
  have rP : Row w .u8 (.slice (some ⟨b, off, none⟩) q cap) (xs.take q) := by
    have := hlie.row 0 q (by omega)
    simpa using this
  have rT : Row w .u8 (.slice (some ⟨b, off + q, none⟩) 8 (cap - q)) (xs.drop q) := by
    have := hlie.row q 8 (by omega)
    rw [List.take_of_length_le (by rw [List.length_drop, hlie.len]; omega)] at this
    exact this
  have bP : Bytes (xs.take q) := fun x hx => hB x (List.mem_of_mem_take hx)
  have bT : Bytes (xs.drop q) := fun x hx => hB x (List.mem_of_mem_drop hx)
  have lP : (xs.take q).length = q := by rw [List.length_take, hlie.len]; omega
  have lT : (xs.drop q).length = 8 := by rw [List.length_drop, hlie.len]; omega
  have HE : Hid _ := And.intro hb (And.intro hh (And.intro hc (And.intro ro (And.intro rP (And.intro rT (And.intro bP (And.intro lP (And.intro lT (And.intro eo (And.intro bo (And.intro hm hq)))))))))))
  have hs := str_ne (retV o (xs.take q)) (xs.drop q) (digV_bytesR _ _) bT heq
  clear hb hh hm hlie hB hc h3 hq ro rP rT bP bT lP lT eo bo heq
  go_enter Tryz.func10, Tryz.ntmps10
  go_wp2_with fail
  go_at_call 38
  refine hp.mono ?_
  clear hp
  rintro e w1 ⟨b1, ⟨c', hc', _⟩ | ⟨K', vd, vs, vt, hc', rfl, ho⟩⟩
  · have h2 := HE.out.2.2.1.symm.trans hc'; cases h2
  obtain rfl : K = K' := by have h2 := HE.out.2.2.1.symm.trans hc'; cases h2; rfl
  clear hc'
  obtain ⟨da, dp, ed⟩ := (row_of_owns ho.o0).form
  obtain ⟨sa, sp, es⟩ := (row_of_owns ho.o1).form
  obtain ⟨ta, tp, et⟩ := (row_of_owns ho.o2).form
  dsimp only at ed es et
  subst ed es et
  have B1 : Below w.heap.size w w1 := HE.out.1.trans (b1.mono HE.out.1.size)
  have e1 := (b1.block w.heap.size (by simp)).trans HE.out.2.1
  have l1 : w.heap.size < w1.heap.size := (Array.getElem?_eq_some_iff.1 e1).1
  have A1 : Below w1.heap.size w1 (w1.alloc (.cells #[.int .i64 K.f, .int .i64 K.v, .slice da K.d.length dp, .slice sa K.s.length sp, .slice ta K.t.length tp, .int .i64 0, .int .i64 0, .int .i64 0] 24)) := (Below.refl _ _).alloc (Nat.le_refl _) _
  have kH : hdB (w1.alloc (.cells #[.int .i64 K.f, .int .i64 K.v, .slice da K.d.length dp, .slice sa K.s.length sp, .slice ta K.t.length tp, .int .i64 0, .int .i64 0, .int .i64 0] 24)) w1.heap.size (.int .i64 K.f) (.int .i64 K.v) (.slice da K.d.length dp) (.slice sa K.s.length sp) (.slice ta K.t.length tp) (.int .i64 0) (.int .i64 0) (.int .i64 0) := heap_alloc_new w1 _
  have k0 : hdB (w1.alloc (.cells #[.int .i64 K.f, .int .i64 K.v, .slice da K.d.length dp, .slice sa K.s.length sp, .slice ta K.t.length tp, .int .i64 0, .int .i64 0, .int .i64 0] 24)) w.heap.size (.int .i64 0) (.int .i64 0) (.slice none 0 0) (.slice none 0 0) (.slice none 0 0) (.int .i64 0) (.int .i64 0) (.int .i64 0) := (A1.block w.heap.size l1).trans e1
  have BW : Below w.heap.size w (w1.alloc (.cells #[.int .i64 K.f, .int .i64 K.v, .slice da K.d.length dp, .slice sa K.s.length sp, .slice ta K.t.length tp, .int .i64 0, .int .i64 0, .int .i64 0] 24)) := B1.trans (A1.mono B1.size)
  have ho2 := ho.belowR A1
  have lb : (w.alloc hd0).heap.size = w.heap.size + 1 := by simp
  rw [lb] at ho2
  have H0 : Hid _ := And.intro kH (And.intro k0 (And.intro BW ho2))
  clear kH k0 BW ho2 A1 e1 B1 ho b1 lb l1
  go_wp2_with fail
  generalize w1.alloc (.cells #[.int .i64 K.f, .int .i64 K.v, .slice da K.d.length dp, .slice sa K.s.length sp, .slice ta K.t.length tp, .int .i64 0, .int .i64 0, .int .i64 0] 24) = W1 at H0 ⊢
  have D : Below W1.heap.size W1 W1.drew := (Below.refl _ _).drew
  have BW : Below w.heap.size w W1.drew := H0.out.2.2.1.drew
  have CT := rtagC ap (some ⟨b, off, none⟩) m q cp cap o (xs.take q) W1.drew (HE.out.2.2.2.1.below BW) (HE.out.2.2.2.2.1.below BW) HE.out.2.2.2.2.2.2.2.2.2.1 HE.out.2.2.2.2.2.2.2.1 HE.out.2.2.2.2.2.2.2.2.2.2.2.1 (by have := HE.out.2.2.2.2.2.2.2.2.2.2.2.2; omega) HE.out.2.2.2.2.2.2.2.2.2.2.1 HE.out.2.2.2.2.2.2.1
  have v0 := conv_rowR Tryz.underlying22 Tryz.underlying5 Tryz.underlying9 (HE.out.2.2.2.2.2.1.below BW) (by have := HE.out.2.2.2.2.2.2.2.2.1; omega)
  have H1 : Hid _ := And.intro CT (And.intro ((D.block w1.heap.size (Array.getElem?_eq_some_iff.1 H0.out.1).1).trans H0.out.1) (And.intro ((D.block w.heap.size (Array.getElem?_eq_some_iff.1 H0.out.2.1).1).trans H0.out.2.1) (And.intro BW (H0.out.2.2.2.belowR D))))
  clear CT BW D H0

  go_region_with (first | (go_at_call 35; refine H1.out.1.mono ?_; rintro e w2 ⟨r, rfl, rr, b2⟩; obtain ⟨ra, rp, er⟩ := rr.form; rw [retV_length] at er; subst er; have v1 := conv_rowR Tryz.underlying22 Tryz.underlying5 Tryz.underlying9 rr (by rw [retV_length]; decide); have v2 := conv_rowR Tryz.underlying22 Tryz.underlying5 Tryz.underlying9 ((HE.out.2.2.2.2.2.1.below H1.out.2.2.2.1).below b2) (by have := HE.out.2.2.2.2.2.2.2.2.1; omega); have kH2 := (b2.block w1.heap.size (Array.getElem?_eq_some_iff.1 H1.out.2.1).1).trans H1.out.2.1; have k02 := (b2.block w.heap.size (Array.getElem?_eq_some_iff.1 H1.out.2.2.1).1).trans H1.out.2.2.1; have H2 : Hid _ := And.intro k02 (And.intro (H1.out.2.2.2.1.trans (b2.mono H1.out.2.2.2.1.size)) (H1.out.2.2.2.2.belowR b2)); obtain ⟨yc0, yc1, yc2, yc3, yc4, yc5, yc6, yc7⟩ := hdB_cells kH2; obtain ⟨zc0, zc1, zc2, zc3, zc4, zc5, zc6, zc7⟩ := hdB_cells k02; obtain ⟨zf0, zf1, zf2, zf3, zf4, zf5, zf6, zf7⟩ := hdB_free k02; clear kH2 k02 b2 rr))
  all_goals
    go_wp2_with fail
    refine bodyPost_ret (v := .tuple #[.agg #[.int .i64 0, .int .i64 0, .slice none 0 0, .slice none 0 0, .slice none 0 0, .int .i64 0, .int .i64 0, .int .i64 0], .int .i64 13]) ?_ rfl ?_
    · exact results_row_tmpP (t := 24) rfl _ _ w.heap.size _ (fr := (0, 0)) _ _ rfl rfl (st8_heap (a0 := .int .i64 0) (a1 := .int .i64 0) (a2 := .slice none 0 0) (a3 := .slice none 0 0) (a4 := .slice none 0 0) (a5 := .int .i64 0) (a6 := .int .i64 0) (a7 := .int .i64 0) H2.out.1) Tryz.underlying24 rfl infoHd
    · exact ⟨rfl, st8_below (a0 := .int .i64 0) (a1 := .int .i64 0) (a2 := .slice none 0 0) (a3 := .slice none 0 0) (a4 := .slice none 0 0) (a5 := .int .i64 0) (a6 := .int .i64 0) (a7 := .int .i64 0) H2.out.2.1 (Nat.le_refl _)⟩
end Go.Proofs.YtoalillggafnpaaGreatDoor

namespace Go.Proofs.YtoalillggafnpaaGreatDoor
open Go.RowKit
set_option linter.unusedVariables false

theorem ro_cids (n : Nat) (cs : List Int) (e : cs.length = n) : (decide (∀ j, j < ([cs] : List (List Int)).length → (([cs] : List (List Int)).getD j []).length ≤ 8)) = decide (n ≤ 8) := by
  rw [decide_eq_decide]
  constructor
  · intro h; have := h 0 (by simp); simpa [e] using this
  · intro h j hj
    obtain rfl : j = 0 := by simp at hj; omega
    simpa [e] using h
theorem ro_cids_len (cs : List Int) (h : cs.length ≤ 9223372036854775807) (j : Nat) : (([cs] : List (List Int)).getD j []).length ≤ 9223372036854775807 := by
  match j with
  | 0 => exact h
  | n + 1 => simp [List.getD]
set_option maxRecDepth 20000 in
set_option maxHeartbeats 400000 in
theorem roI_long (ao ap : Option Addr) (n cap m cp : Nat) (w : World) (hn : n ≤ 9223372036854775807) (h : 65536 < n) :
    Calls Tryz.prog 7 #[.slice ao n cap, .slice ap m cp] w fun e w' => e = .returned (.tuple #[.agg #[.int .i64 0, .int .i64 0, .slice none 0 0, .slice none 0 0, .slice none 0 0, .int .i64 0, .int .i64 0, .int .i64 0], .int .i64 4]) ∧ Below w.heap.size w w' := by
  have hb : Below w.heap.size w (w.alloc hd0) := (Below.refl _ _).alloc (Nat.le_refl _) _
  have hh := heap_alloc_new w hd0
  have d : decide ((65536 : Int) < (n : Int)) = true := decide_eq_true (by omega)
  have HE : Hid _ := And.intro hb hh
  clear hb hh hn h
  go_enter Tryz.func7, Tryz.ntmps7
  go_wp2_with fail
  refine bodyPost_ret (v := .tuple #[.agg #[.int .i64 0, .int .i64 0, .slice none 0 0, .slice none 0 0, .slice none 0 0, .int .i64 0, .int .i64 0, .int .i64 0], .int .i64 4]) ?_ rfl ?_
  · exact results_row_tmpP (t := 24) rfl _ _ w.heap.size _ (fr := (0, 0)) _ _ rfl rfl HE.out.2 Tryz.underlying24 rfl infoHd
  · exact ⟨rfl, HE.out.1⟩

theorem ro_w2 (ap : Option Addr) (m cp : Nat) (w : World) : Below w.heap.size w ((w.alloc hd0).alloc (.cells #[.slice ap m cp] 22)) ∧ hdB ((w.alloc hd0).alloc (.cells #[.slice ap m cp] 22)) w.heap.size (.int .i64 0) (.int .i64 0) (.slice none 0 0) (.slice none 0 0) (.slice none 0 0) (.int .i64 0) (.int .i64 0) (.int .i64 0) := by
  have hb : Below w.heap.size w (w.alloc hd0) := (Below.refl _ _).alloc (Nat.le_refl _) _
  refine ⟨hb.alloc hb.size _, ?_⟩
  exact (Below.heap_alloc _ _ _ (by simp)).trans (heap_alloc_new w hd0)
theorem ro_cidsC (ap : Option Addr) (m cp : Nat) (o : List Int) (w : World) (ro : Row w .u8 (.slice ap m cp) o) (eo : o.length = m) (hm : m ≤ 9223372036854775807) :
    Calls Tryz.prog 29 #[.slice (some ⟨w.heap.size + 1, 0, none⟩) 1 1] ((w.alloc hd0).alloc (.cells #[.slice ap m cp] 22)) fun e w' => e = .returned (.bool (decide (m ≤ 8))) ∧ w' = ((w.alloc hd0).alloc (.cells #[.slice ap m cp] 22)) := by
  have hb : Below w.heap.size w (w.alloc hd0) := (Below.refl _ _).alloc (Nat.le_refl _) _
  have C := icids _ [o] _ (parts1 (ro.below hb) 22) (by simp) (ro_cids_len o (by rw [eo]; exact hm))
  rw [ro_cids m o eo] at C
  have hs : (w.alloc hd0).heap.size = w.heap.size + 1 := by simp
  rw [hs] at C
  exact C
set_option maxRecDepth 20000 in
set_option maxHeartbeats 400000 in
theorem roI_bad (ao ap : Option Addr) (n cap m cp : Nat) (o : List Int) (w : World) (hn : n ≤ 65536) (ro : Row w .u8 (.slice ap m cp) o) (eo : o.length = m) (hm : m ≤ 9223372036854775807) (h : 8 < m) :
    Calls Tryz.prog 7 #[.slice ao n cap, .slice ap m cp] w fun e w' => e = .returned (.tuple #[.agg #[.int .i64 0, .int .i64 0, .slice none 0 0, .slice none 0 0, .slice none 0 0, .int .i64 0, .int .i64 0, .int .i64 0], .int .i64 1]) ∧ Below w.heap.size w w' := by
  have C := ro_cidsC ap m cp o w ro eo hm
  rw [decide_eq_false (by omega)] at C
  obtain ⟨kb, k0⟩ := ro_w2 ap m cp w
  have d : decide ((65536 : Int) < (n : Int)) = false := decide_eq_false (by omega)
  obtain ⟨zc0, zc1, zc2, zc3, zc4, zc5, zc6, zc7⟩ := hdB_cells k0
  obtain ⟨zf0, zf1, zf2, zf3, zf4, zf5, zf6, zf7⟩ := hdB_free k0
  have HQ : Hid _ := And.intro k0 kb
  clear k0 kb hn ro eo hm h
  go_enter Tryz.func7, Tryz.ntmps7
  go_wp2_with fail
  go_at_call 29
  refine C.mono ?_
  rintro e w1 ⟨rfl, hw⟩
  subst w1
  go_wp2_with fail
  refine bodyPost_ret (v := .tuple #[.agg #[.int .i64 0, .int .i64 0, .slice none 0 0, .slice none 0 0, .slice none 0 0, .int .i64 0, .int .i64 0, .int .i64 0], .int .i64 1]) ?_ rfl ?_
  · exact results_row_tmpP (t := 24) rfl _ _ w.heap.size _ (fr := (0, 0)) _ _ rfl rfl HQ.out.1 Tryz.underlying24 rfl infoHd
  · exact ⟨rfl, HQ.out.2⟩


set_option maxRecDepth 20000 in
set_option maxHeartbeats 400000 in
theorem roI_form (ao ap : Option Addr) (n cap m cp : Nat) (K : PK) (o : List Int) (w : World) (hn : n ≤ 65536) (ro : Row w .u8 (.slice ap m cp) o) (eo : o.length = m) (hm : m ≤ 8) (h3 : K.f ≠ 3)
    (hp : Calls Tryz.prog 36 #[.slice ao n cap, .int .i64 0] ((w.alloc hd0).alloc (.cells #[.slice ap m cp] 22)) fun e w' => Below ((w.alloc hd0).alloc (.cells #[.slice ap m cp] 22)).heap.size ((w.alloc hd0).alloc (.cells #[.slice ap m cp] 22)) w' ∧ ∃ vd vs vt vv, e = .returned (.tuple #[.agg (pkA K vd vs vt vv), .nilIface]) ∧ HOwn w' ((w.alloc hd0).alloc (.cells #[.slice ap m cp] 22)).heap.size vd vs vt ⟨K.f, K.v, K.d, K.s, K.t, 0, 0, 0⟩ ∧ w'.ownsRow ((w.alloc hd0).alloc (.cells #[.slice ap m cp] 22)).heap.size 3 1 vv K.vers.length (K.vers.map (Value.int .i64))) :
    Calls Tryz.prog 7 #[.slice ao n cap, .slice ap m cp] w fun e w' => e = .returned (.tuple #[.agg #[.int .i64 0, .int .i64 0, .slice none 0 0, .slice none 0 0, .slice none 0 0, .int .i64 0, .int .i64 0, .int .i64 0], .int .i64 3]) ∧ Below w.heap.size w w' := by
  have C := ro_cidsC ap m cp o w ro eo (by omega)
  rw [decide_eq_true (by omega)] at C
  obtain ⟨kb0, k00⟩ := ro_w2 ap m cp w
  have d : decide ((65536 : Int) < (n : Int)) = false := decide_eq_false (by omega)
  have d3 : (K.f != 3) = true := by simp [h3]
  have HE : Hid _ := And.intro kb0 k00
  clear kb0 k00 hn ro eo hm h3
  go_enter Tryz.func7, Tryz.ntmps7
  go_wp2_with fail
  go_at_call 29
  refine C.mono ?_
  rintro e w1 ⟨rfl, hw⟩
  subst w1
  go_wp2_with fail
  go_at_call 36
  refine hp.mono ?_
  rintro e w1 ⟨b1, vd, vs, vt, vv, rfl, q2, q3⟩
  obtain ⟨da, dp, ed⟩ := (row_of_owns q2.o0).form
  obtain ⟨sa, sp, es⟩ := (row_of_owns q2.o1).form
  obtain ⟨ta, tp, et⟩ := (row_of_owns q2.o2).form
  obtain ⟨va, vp, ev⟩ := (row_of_owns (k := .i64) q3).form
  dsimp only at ed es et
  subst ed es et ev
  have e1 := (b1.block w.heap.size (by have := HE.out.2; exact (Array.getElem?_eq_some_iff.1 this).1)).trans HE.out.2
  have k0 : hdB (w1.alloc (.cells (pkA K (.slice da K.d.length dp) (.slice sa K.s.length sp) (.slice ta K.t.length tp) (.slice va K.vers.length vp)) 62)) w.heap.size (.int .i64 0) (.int .i64 0) (.slice none 0 0) (.slice none 0 0) (.slice none 0 0) (.int .i64 0) (.int .i64 0) (.int .i64 0) := (Below.heap_alloc _ _ _ ((Array.getElem?_eq_some_iff.1 e1).1)).trans e1
  have kb : ∀ o, Below w.heap.size w (w1.alloc o) := fun o => by
    have h1 := HE.out.1.trans (b1.mono HE.out.1.size)
    exact h1.alloc h1.size o
  unfold pkA at k0 ⊢
  obtain ⟨zc0, zc1, zc2, zc3, zc4, zc5, zc6, zc7⟩ := hdB_cells k0
  obtain ⟨zf0, zf1, zf2, zf3, zf4, zf5, zf6, zf7⟩ := hdB_free k0
  have HQ : Hid _ := And.intro (st8_heap (a0 := .int .i64 0) (a1 := .int .i64 0) (a2 := .slice none 0 0) (a3 := .slice none 0 0) (a4 := .slice none 0 0) (a5 := .int .i64 0) (a6 := .int .i64 0) (a7 := .int .i64 0) k0) (fun o => st8_below (a0 := .int .i64 0) (a1 := .int .i64 0) (a2 := .slice none 0 0) (a3 := .slice none 0 0) (a4 := .slice none 0 0) (a5 := .int .i64 0) (a6 := .int .i64 0) (a7 := .int .i64 0) (kb o) (Nat.le_refl w.heap.size))
  clear k0 kb b1 hp q2 q3 e1 C
  go_wp2_with fail
  refine bodyPost_ret (v := .tuple #[.agg #[.int .i64 0, .int .i64 0, .slice none 0 0, .slice none 0 0, .slice none 0 0, .int .i64 0, .int .i64 0, .int .i64 0], .int .i64 3]) ?_ rfl ?_
  · exact results_row_tmpP (t := 24) rfl _ _ w.heap.size _ (fr := (0, 0)) _ _ rfl rfl HQ.out.1 Tryz.underlying24 rfl infoHd
  · exact ⟨rfl, HQ.out.2 _⟩

set_option maxRecDepth 20000 in
set_option maxHeartbeats 400000 in
theorem roI_err (ao ap : Option Addr) (n cap m cp : Nat) (c : Int) (o : List Int) (w : World) (he : errT w) (hn : n ≤ 65536) (ro : Row w .u8 (.slice ap m cp) o) (eo : o.length = m) (hm : m ≤ 8)
    (hp : Calls Tryz.prog 36 #[.slice ao n cap, .int .i64 0] ((w.alloc hd0).alloc (.cells #[.slice ap m cp] 22)) fun e w' => Below ((w.alloc hd0).alloc (.cells #[.slice ap m cp] 22)).heap.size ((w.alloc hd0).alloc (.cells #[.slice ap m cp] 22)) w' ∧ e = .returned (.tuple #[.agg #[.int .i64 0, .int .i64 0, .slice none 0 0, .slice none 0 0, .slice none 0 0, .int .i64 0, .int .i64 0, .int .i64 0, .slice none 0 0, .int .i64 0, .int .i64 0], faultV c])) :
    Calls Tryz.prog 7 #[.slice ao n cap, .slice ap m cp] w fun e w' => e = .returned (.tuple #[.agg #[.int .i64 0, .int .i64 0, .slice none 0 0, .slice none 0 0, .slice none 0 0, .int .i64 0, .int .i64 0, .int .i64 0], .int .i64 c]) ∧ Below w.heap.size w w' := by
  have C := ro_cidsC ap m cp o w ro eo (by omega)
  rw [decide_eq_true (by omega)] at C
  obtain ⟨kb0, k00⟩ := ro_w2 ap m cp w
  have d : decide ((65536 : Int) < (n : Int)) = false := decide_eq_false (by omega)
  have HE : Hid _ := And.intro kb0 (And.intro k00 he)
  clear kb0 k00 hn ro eo hm he
  go_enter Tryz.func7, Tryz.ntmps7
  go_wp2_with fail
  go_at_call 29
  refine C.mono ?_
  rintro e w1 ⟨rfl, hw⟩
  subst w1
  go_wp2_with fail
  go_at_call 36
  refine hp.mono ?_
  rintro e w1 ⟨b1, rfl⟩
  have e1 := (b1.block w.heap.size (by have := HE.out.2.1; exact (Array.getElem?_eq_some_iff.1 this).1)).trans HE.out.2.1
  have k1 : ∀ o, hdB (w1.alloc o) w.heap.size (.int .i64 0) (.int .i64 0) (.slice none 0 0) (.slice none 0 0) (.slice none 0 0) (.int .i64 0) (.int .i64 0) (.int .i64 0) := fun o => (Below.heap_alloc _ _ _ ((Array.getElem?_eq_some_iff.1 e1).1)).trans e1
  have ba : ∀ o, Below w.heap.size w (w1.alloc o) := fun o => by
    have h1 := HE.out.1.trans (b1.mono HE.out.1.size)
    exact h1.alloc h1.size o
  have hcd : ∀ o, _ := fun o => codeC_fault c (w1.alloc o) (HE.out.2.2.below (ba o) HE.out.2.2.lt)
  have HB : Hid _ := And.intro k1 ba
  clear k1 ba b1 e1 hp C
  unfold faultV at hcd ⊢
  go_wp2_with fail
  go_at_call 37
  refine (hcd _).mono ?_
  rintro e w2 ⟨rfl, b2⟩
  have k0 : hdB w2 w.heap.size (.int .i64 0) (.int .i64 0) (.slice none 0 0) (.slice none 0 0) (.slice none 0 0) (.int .i64 0) (.int .i64 0) (.int .i64 0) := (b2.block w.heap.size ((Array.getElem?_eq_some_iff.1 (HB.out.1 _)).1)).trans (HB.out.1 _)
  have kb : Below w.heap.size w w2 := (HB.out.2 _).trans (b2.mono (HB.out.2 _).size)
  obtain ⟨zc0, zc1, zc2, zc3, zc4, zc5, zc6, zc7⟩ := hdB_cells k0
  obtain ⟨zf0, zf1, zf2, zf3, zf4, zf5, zf6, zf7⟩ := hdB_free k0
  have HQ : Hid _ := And.intro (st8_heap (a0 := .int .i64 0) (a1 := .int .i64 0) (a2 := .slice none 0 0) (a3 := .slice none 0 0) (a4 := .slice none 0 0) (a5 := .int .i64 0) (a6 := .int .i64 0) (a7 := .int .i64 0) k0) (st8_below (a0 := .int .i64 0) (a1 := .int .i64 0) (a2 := .slice none 0 0) (a3 := .slice none 0 0) (a4 := .slice none 0 0) (a5 := .int .i64 0) (a6 := .int .i64 0) (a7 := .int .i64 0) kb (Nat.le_refl w.heap.size))
  clear k0 kb b2 hcd
  go_wp2_with fail
  refine bodyPost_ret (v := .tuple #[.agg #[.int .i64 0, .int .i64 0, .slice none 0 0, .slice none 0 0, .slice none 0 0, .int .i64 0, .int .i64 0, .int .i64 0], .int .i64 c]) ?_ rfl ?_
  · exact results_row_tmpP (t := 24) rfl _ _ w.heap.size _ (fr := (0, 0)) _ _ rfl rfl HQ.out.1 Tryz.underlying24 rfl infoHd
  · exact ⟨rfl, HQ.out.2⟩
end Go.Proofs.YtoalillggafnpaaGreatDoor

namespace Go.Proofs.YtoalillggafnpaaGreatDoor
open Go.RowKit
set_option linter.unusedVariables false

theorem listR8 (A : List Int) (h : A.length = 8) : ∃ a0 a1 a2 a3 a4 a5 a6 a7 : Int, A = [a0, a1, a2, a3, a4, a5, a6, a7] := by
  match A, h with
  | [a0, a1, a2, a3, a4, a5, a6, a7], _ => exact ⟨a0, a1, a2, a3, a4, a5, a6, a7, rfl⟩
theorem infoU8r : (Tryz.prog.info? 5).map (·.size) = some 1 := by kernel_rfl
theorem neq8_run (x0 x1 x2 x3 x4 x5 x6 x7 y0 y1 y2 y3 y4 y5 y6 y7 : Int) (w : World) : (binOp .neq 58 (.agg #[.int .u8 x0, .int .u8 x1, .int .u8 x2, .int .u8 x3, .int .u8 x4, .int .u8 x5, .int .u8 x6, .int .u8 x7]) (.agg #[.int .u8 y0, .int .u8 y1, .int .u8 y2, .int .u8 y3, .int .u8 y4, .int .u8 y5, .int .u8 y6, .int .u8 y7])).run Tryz.prog w = .ok (.bool (!(decide ([x0, x1, x2, x3, x4, x5, x6, x7] = [y0, y1, y2, y3, y4, y5, y6, y7])))) w := by
  have EQ := eq8 x0 x1 x2 x3 x4 x5 x6 x7 y0 y1 y2 y3 y4 y5 y6 y7 9998 w
  generalize hX : (Value.agg #[.int .u8 x0, .int .u8 x1, .int .u8 x2, .int .u8 x3, .int .u8 x4, .int .u8 x5, .int .u8 x6, .int .u8 x7]) = X at EQ ⊢
  generalize hY : (Value.agg #[.int .u8 y0, .int .u8 y1, .int .u8 y2, .int .u8 y3, .int .u8 y4, .int .u8 y5, .int .u8 y6, .int .u8 y7]) = Y at EQ ⊢
  subst hX hY
  unfold binOp
  simp only [Op.equal]
  have EQ' : (Op.equalIn Op.maxDepth 58 (Value.agg #[.int .u8 x0, .int .u8 x1, .int .u8 x2, .int .u8 x3, .int .u8 x4, .int .u8 x5, .int .u8 x6, .int .u8 x7]) (Value.agg #[.int .u8 y0, .int .u8 y1, .int .u8 y2, .int .u8 y3, .int .u8 y4, .int .u8 y5, .int .u8 y6, .int .u8 y7])).run Tryz.prog w = _ := EQ
  simp only [Sem.run_bind, EQ', Result.andThen_ok, Sem.run_pure]
theorem grd8_run (p q : Operand) (X Y : Array Value) (w : World) : (eqGuard .neq 58 p q (.agg X) (.agg Y)).run Tryz.prog w = .ok () w := by
  simp [eqGuard]
theorem HOwn.st8I {w : World} {base base' g : Nat} {v2 v3 v4 a0 a1 a2 a3 a4 a5 a6 a7 : Value} {h : H8} (k : HOwn w base v2 v3 v4 h) (hg : g < base) (hb : base' ≤ base) : HOwn (st8 w g a0 a1 a2 a3 a4 a5 a6 a7) base' v2 v3 v4 h :=
  ⟨owns_mono (st8_owns k.o0 hg) hb, owns_mono (st8_owns k.o1 hg) hb, owns_mono (st8_owns k.o2 hg) hb, k.a01, k.a02, k.a12⟩
theorem HOwn.belowI {w w' : World} {base : Nat} {v2 v3 v4 : Value} {h : H8} (k : HOwn w base v2 v3 v4 h) (hb : Below w.heap.size w w') : HOwn w' base v2 v3 v4 h :=
  ⟨owns_below k.o0 hb, owns_below k.o1 hb, owns_below k.o2 hb, k.a01, k.a02, k.a12⟩
theorem HOwn.onlyI {w w' : World} {base : Nat} {g : Nat} {v2 v3 v4 : Value} {h : H8} (ho : Only (some g) w w') (k : HOwn w base v2 v3 v4 h) (hn : ∀ v : Value, v = v2 ∨ v = v3 ∨ v = v4 → ∀ j, v.ownBlock = some j → j < g) : HOwn w' base v2 v3 v4 h :=
  ⟨ho.owns k.o0 (fun j hj e => by have := hn v2 (Or.inl rfl) j hj; have := Option.some.inj e; omega), ho.owns k.o1 (fun j hj e => by have := hn v3 (Or.inr (Or.inl rfl)) j hj; have := Option.some.inj e; omega), ho.owns k.o2 (fun j hj e => by have := hn v4 (Or.inr (Or.inr rfl)) j hj; have := Option.some.inj e; omega), k.a01, k.a02, k.a12⟩

set_option maxRecDepth 200000 in
set_option maxHeartbeats 8000000 in
theorem roU_ok (b off q cap : Nat) (ap : Option Addr) (m cp : Nat) (K : PK) (xs o : List Int) (w : World) (hq : q ≤ 87) (hm : m ≤ 8) (hlie : Lies w b off (q + 8) cap xs) (hB : Bytes xs) (ro : Row w .u8 (.slice ap m cp) o) (eo : o.length = m) (bo : Bytes o) (h3 : K.f = 3) (hp : Calls Tryz.prog 36 #[.slice (some ⟨b, off, none⟩) (q + 8) cap, .int .i64 0] ((w.alloc hd0).alloc (.cells #[.slice ap m cp] 22)) fun e w' => Below ((w.alloc hd0).alloc (.cells #[.slice ap m cp] 22)).heap.size ((w.alloc hd0).alloc (.cells #[.slice ap m cp] 22)) w' ∧ ∃ vd vs vt vv, e = .returned (.tuple #[.agg (pkA K vd vs vt vv), .nilIface]) ∧ HOwn w' ((w.alloc hd0).alloc (.cells #[.slice ap m cp] 22)).heap.size vd vs vt ⟨K.f, K.v, K.d, K.s, K.t, 0, 0, 0⟩ ∧ w'.ownsRow ((w.alloc hd0).alloc (.cells #[.slice ap m cp] 22)).heap.size 3 1 vv K.vers.length (K.vers.map (Value.int .i64))) (heq : retV o (xs.take q) = xs.drop q) :
    Calls Tryz.prog 7 #[.slice (some ⟨b, off, none⟩) (q + 8) cap, .slice ap m cp] w fun e w' => ∃ vd vs vt, e = .returned (.tuple #[.agg #[.int .i64 K.f, .int .i64 K.v, vd, vs, vt, .int .i64 0, .int .i64 0, .int .i64 0], .int .i64 0]) ∧ HOwn w' w.heap.size vd vs vt ⟨K.f, K.v, K.d, K.s, K.t, 0, 0, 0⟩ ∧ Below w.heap.size w w' := by
  have C := ro_cidsC ap m cp o w ro eo (by omega)
  rw [decide_eq_true (by omega)] at C
  obtain ⟨kb0, k00⟩ := ro_w2 ap m cp w
  have d : decide ((65536 : Int) < (q : Int) + 8) = false := decide_eq_false (by omega)
  have d3 : (K.f != 3) = false := by simp [h3]
  have hcap : cap ≤ 9223372036854775807 := Nat.le_trans hlie.most (by decide)
  have hfit : q + 8 ≤ cap := hlie.fits
  have hne : ¬ cap = q := by omega
  have hpn : (q : Int) ≤ (cap : Int) := by omega
  have hpn8 : (q : Int) ≤ (q : Int) + 8 := by omega
  have e88 : q + 8 - q = 8 := by omega
  have rP : Row w .u8 (.slice (some ⟨b, off, none⟩) q cap) (xs.take q) := by
    have := hlie.row 0 q (by omega)
    simpa using this
  have rT : Row w .u8 (.slice (some ⟨b, off + q, none⟩) 8 (cap - q)) (xs.drop q) := by
    have := hlie.row q 8 (by omega)
    rw [List.take_of_length_le (by rw [List.length_drop, hlie.len]; omega)] at this
    exact this
  have bP : Bytes (xs.take q) := fun x hx => hB x (List.mem_of_mem_take hx)
  have lP : (xs.take q).length = q := by rw [List.length_take, hlie.len]; omega
  have lT : (xs.drop q).length = 8 := by rw [List.length_drop, hlie.len]; omega
  have HE : Hid _ := And.intro kb0 (And.intro k00 (And.intro ro (And.intro rP (And.intro rT (And.intro bP (And.intro lP (And.intro lT (And.intro eo (And.intro bo (And.intro hm (And.intro hq heq)))))))))))
  clear kb0 k00 hm hlie hB h3 hq ro rP rT bP lP lT eo bo heq
  go_enter Tryz.func7, Tryz.ntmps7
  go_wp2_with fail
  go_at_call 29
  refine C.mono ?_
  rintro e w1 ⟨rfl, hw⟩
  subst w1
  clear C
  go_wp2_with fail
  go_at_call 36
  refine hp.mono ?_
  clear hp
  rintro e w1 ⟨b1, vd, vs, vt, vv, rfl, q2, q3⟩
  obtain ⟨da, dp, ed⟩ := (row_of_owns q2.o0).form
  obtain ⟨sa, sp, es⟩ := (row_of_owns q2.o1).form
  obtain ⟨ta, tp, et⟩ := (row_of_owns q2.o2).form
  obtain ⟨va, vp, ev⟩ := (row_of_owns (k := .i64) q3).form
  dsimp only at ed es et
  subst ed es et ev
  unfold pkA
  have B1 : Below w.heap.size w w1 := HE.out.1.trans (b1.mono HE.out.1.size)
  have e1 := (b1.block w.heap.size (by have := HE.out.2.1; exact (Array.getElem?_eq_some_iff.1 this).1)).trans HE.out.2.1
  have l1 : w.heap.size < w1.heap.size := (Array.getElem?_eq_some_iff.1 e1).1
  have A1 : Below w1.heap.size w1 ((w1.alloc (.cells #[.int .i64 K.f, .int .i64 K.v, .slice da K.d.length dp, .slice sa K.s.length sp, .slice ta K.t.length tp, .int .i64 0, .int .i64 0, .int .i64 0, .slice va K.vers.length vp, .int .i64 K.na, .int .i64 K.fin] 62)).alloc (.cells #[.int .u8 0, .int .u8 0, .int .u8 0, .int .u8 0, .int .u8 0, .int .u8 0, .int .u8 0, .int .u8 0] 58)) := ((Below.refl _ _).alloc (Nat.le_refl _) _).alloc (by simp) _
  have kP : ((w1.alloc (.cells #[.int .i64 K.f, .int .i64 K.v, .slice da K.d.length dp, .slice sa K.s.length sp, .slice ta K.t.length tp, .int .i64 0, .int .i64 0, .int .i64 0, .slice va K.vers.length vp, .int .i64 K.na, .int .i64 K.fin] 62)).alloc (.cells #[.int .u8 0, .int .u8 0, .int .u8 0, .int .u8 0, .int .u8 0, .int .u8 0, .int .u8 0, .int .u8 0] 58)).heap[w1.heap.size]? = some (.cells #[.int .i64 K.f, .int .i64 K.v, .slice da K.d.length dp, .slice sa K.s.length sp, .slice ta K.t.length tp, .int .i64 0, .int .i64 0, .int .i64 0, .slice va K.vers.length vp, .int .i64 K.na, .int .i64 K.fin] 62 (0, 0)) := by
    rw [Below.heap_alloc _ _ _ (by simp)]; exact heap_alloc_new w1 _
  have k8 : ((w1.alloc (.cells #[.int .i64 K.f, .int .i64 K.v, .slice da K.d.length dp, .slice sa K.s.length sp, .slice ta K.t.length tp, .int .i64 0, .int .i64 0, .int .i64 0, .slice va K.vers.length vp, .int .i64 K.na, .int .i64 K.fin] 62)).alloc (.cells #[.int .u8 0, .int .u8 0, .int .u8 0, .int .u8 0, .int .u8 0, .int .u8 0, .int .u8 0, .int .u8 0] 58)).heap[w1.heap.size + 1]? = some (.cells #[.int .u8 0, .int .u8 0, .int .u8 0, .int .u8 0, .int .u8 0, .int .u8 0, .int .u8 0, .int .u8 0] 58 (0, 0)) := by
    have := heap_alloc_new (w1.alloc (.cells #[.int .i64 K.f, .int .i64 K.v, .slice da K.d.length dp, .slice sa K.s.length sp, .slice ta K.t.length tp, .int .i64 0, .int .i64 0, .int .i64 0, .slice va K.vers.length vp, .int .i64 K.na, .int .i64 K.fin] 62)) (.cells #[.int .u8 0, .int .u8 0, .int .u8 0, .int .u8 0, .int .u8 0, .int .u8 0, .int .u8 0, .int .u8 0] 58)
    simpa using this
  have k0 : hdB ((w1.alloc (.cells #[.int .i64 K.f, .int .i64 K.v, .slice da K.d.length dp, .slice sa K.s.length sp, .slice ta K.t.length tp, .int .i64 0, .int .i64 0, .int .i64 0, .slice va K.vers.length vp, .int .i64 K.na, .int .i64 K.fin] 62)).alloc (.cells #[.int .u8 0, .int .u8 0, .int .u8 0, .int .u8 0, .int .u8 0, .int .u8 0, .int .u8 0, .int .u8 0] 58)) w.heap.size (.int .i64 0) (.int .i64 0) (.slice none 0 0) (.slice none 0 0) (.slice none 0 0) (.int .i64 0) (.int .i64 0) (.int .i64 0) := (A1.block w.heap.size l1).trans e1
  have hol : ∀ v : Value, v = .slice da K.d.length dp ∨ v = .slice sa K.s.length sp ∨ v = .slice ta K.t.length tp → ∀ j, v.ownBlock = some j → j < w1.heap.size + 1 := by
    intro v hv j hj
    rcases hv with rfl | rfl | rfl
    · have := (q2.o0.lt j hj).2; omega
    · have := (q2.o1.lt j hj).2; omega
    · have := (q2.o2.lt j hj).2; omega
  have lb : ((w.alloc hd0).alloc (.cells #[.slice ap m cp] 22)).heap.size = w.heap.size + 2 := by simp
  have ho2 := q2.belowI A1
  rw [lb] at ho2
  have H0 : Hid _ := And.intro kP (And.intro k8 (And.intro k0 (And.intro (B1.trans (A1.mono B1.size)) (And.intro ho2 (And.intro hol l1)))))
  clear kP k8 k0 ho2 A1 e1 B1 b1 lb q2 q3 hol l1
  go_wp2_with fail
  generalize (w1.alloc (.cells #[.int .i64 K.f, .int .i64 K.v, .slice da K.d.length dp, .slice sa K.s.length sp, .slice ta K.t.length tp, .int .i64 0, .int .i64 0, .int .i64 0, .slice va K.vers.length vp, .int .i64 K.na, .int .i64 K.fin] 62)).alloc (.cells #[.int .u8 0, .int .u8 0, .int .u8 0, .int .u8 0, .int .u8 0, .int .u8 0, .int .u8 0, .int .u8 0] 58) = W at H0 ⊢
  have RD : Hid (Row W.drew .u8 (.slice (some ⟨b, off + q, none⟩) 8 (cap - q)) (xs.drop q)) := HE.out.2.2.2.2.1.below H0.out.2.2.2.1.drew
  have G8 : Hid (W.drew.heap[w1.heap.size + 1]? = some (.cells (u8s (List.replicate 8 0)).toArray 58 (0, 0))) := H0.out.2.1
  have g8l : w1.heap.size + 1 < W.heap.size := (Array.getElem?_eq_some_iff.1 H0.out.2.1).1
  go_region_law (refine step_copy_at rfl (.tmp 37) (.tmp 40) 22 22 rfl 5 Tryz.underlying22 infoU8r (w1.heap.size + 1) 0 8 8 _ rfl rfl (xs.drop q) RD.out (by rw [HE.out.2.2.2.2.2.2.2.1]; decide) (List.replicate 8 0) 58 G8.out 8 (by rw [HE.out.2.2.2.2.2.2.2.1]; rfl) (by simp) ?_; intro w3 h3 m3)
  have e3 : splice (List.replicate 8 (0 : Int)) 0 ((xs.drop q).take 8) = xs.drop q := by
    have : ((xs.drop q).take 8) = xs.drop q := List.take_of_length_le (by rw [HE.out.2.2.2.2.2.2.2.1]; decide)
    rw [this]
    simp [splice, HE.out.2.2.2.2.2.2.2.1]
  rw [e3] at h3
  have B3 : Below w.heap.size w w3 := H0.out.2.2.2.1.drew.trans (m3.below (by have := H0.out.2.2.2.2.2.2; omega))
  have P3 := (m3.block w1.heap.size (fun e => by have := Option.some.inj e; omega)).trans H0.out.1
  have Z3 := (m3.block w.heap.size (fun e => by have := Option.some.inj e; have := H0.out.2.2.2.2.2.2; omega)).trans H0.out.2.2.1
  have O3 := HOwn.onlyI m3 (H0.out.2.2.2.2.1.belowI (Below.refl _ _).drew) H0.out.2.2.2.2.2.1
  obtain ⟨t0, t1, t2, t3, t4, t5, t6, t7, et⟩ := listR8 (xs.drop q) HE.out.2.2.2.2.2.2.2.1
  obtain ⟨r0, r1, r2, r3, r4, r5, r6, r7, er⟩ := listR8 (retV o (xs.take q)) (retV_length _ _)
  rw [et] at h3
  have h3' : w3.heap[w1.heap.size + 1]? = some (.cells #[.int .u8 t0, .int .u8 t1, .int .u8 t2, .int .u8 t3, .int .u8 t4, .int .u8 t5, .int .u8 t6, .int .u8 t7] 58 (0, 0)) := h3
  have CT := iretTag ap (some ⟨b, off, none⟩) m q cp cap o (xs.take q) w3.drew (HE.out.2.2.1.below B3.drew) (HE.out.2.2.2.1.below B3.drew) HE.out.2.2.2.2.2.2.2.2.1 HE.out.2.2.2.2.2.2.1 HE.out.2.2.2.2.2.2.2.2.2.2.1 (by have := HE.out.2.2.2.2.2.2.2.2.2.2.2.1; omega) HE.out.2.2.2.2.2.2.2.2.2.1 HE.out.2.2.2.2.2.1
  rw [er] at CT
  have CT' : Calls Tryz.prog 32 #[.slice ap m cp, .slice (some ⟨b, off, none⟩) q cap] w3.drew fun e w' => e = .returned (.agg #[.int .u8 r0, .int .u8 r1, .int .u8 r2, .int .u8 r3, .int .u8 r4, .int .u8 r5, .int .u8 r6, .int .u8 r7]) ∧ Below w3.drew.heap.size w3.drew w' := CT
  have nb := neq8_run r0 r1 r2 r3 r4 r5 r6 r7 t0 t1 t2 t3 t4 t5 t6 t7
  have hcmp : decide ([r0, r1, r2, r3, r4, r5, r6, r7] = [t0, t1, t2, t3, t4, t5, t6, t7]) = true := by rw [← et, ← er]; exact decide_eq_true HE.out.2.2.2.2.2.2.2.2.2.2.2.2
  rw [hcmp] at nb
  have gd := fun (w : World) => grd8_run (.tmp 46) (.tmp 47) #[.int .u8 r0, .int .u8 r1, .int .u8 r2, .int .u8 r3, .int .u8 r4, .int .u8 r5, .int .u8 r6, .int .u8 r7] #[.int .u8 t0, .int .u8 t1, .int .u8 t2, .int .u8 t3, .int .u8 t4, .int .u8 t5, .int .u8 t6, .int .u8 t7] w
  have H3 : Hid _ := And.intro h3' (And.intro P3 (And.intro Z3 (And.intro B3 (And.intro O3 CT'))))
  have g83 : w1.heap.size + 1 < w3.heap.size := (Array.getElem?_eq_some_iff.1 h3').1
  have s0 : w3.drew.cell? ⟨(w1.heap.size + 1), 0, none⟩ = some (.int .u8 t0) := bk_cell h3' 0
  have s1 : w3.drew.cell? ⟨(w1.heap.size + 1), 1, none⟩ = some (.int .u8 t1) := bk_cell h3' 1
  have s2 : w3.drew.cell? ⟨(w1.heap.size + 1), 2, none⟩ = some (.int .u8 t2) := bk_cell h3' 2
  have s3 : w3.drew.cell? ⟨(w1.heap.size + 1), 3, none⟩ = some (.int .u8 t3) := bk_cell h3' 3
  have s4 : w3.drew.cell? ⟨(w1.heap.size + 1), 4, none⟩ = some (.int .u8 t4) := bk_cell h3' 4
  have s5 : w3.drew.cell? ⟨(w1.heap.size + 1), 5, none⟩ = some (.int .u8 t5) := bk_cell h3' 5
  have s6 : w3.drew.cell? ⟨(w1.heap.size + 1), 6, none⟩ = some (.int .u8 t6) := bk_cell h3' 6
  have s7 : w3.drew.cell? ⟨(w1.heap.size + 1), 7, none⟩ = some (.int .u8 t7) := bk_cell h3' 7

  clear e3 h3 m3 B3 P3 Z3 O3 CT CT' h3' RD G8 hcmp et er
  go_wp2_with fail
  go_region_with (first | (go_at_call 32; refine H3.out.2.2.2.2.2.mono ?_; rintro e w4 ⟨rfl, b4⟩; have b34 : Below w3.heap.size w3 w4 := ((Below.refl _ _).drew).trans b4; have k84 := (b34.block (w1.heap.size + 1) g83).trans H3.out.1; have kP4 := (b34.block w1.heap.size (by omega)).trans H3.out.2.1; have k04 := (b34.block w.heap.size (Array.getElem?_eq_some_iff.1 H3.out.2.2.1).1).trans H3.out.2.2.1; have H4 : Hid _ := And.intro k04 (And.intro (H3.out.2.2.2.1.trans (b34.mono H3.out.2.2.2.1.size)) (H3.out.2.2.2.2.1.belowI b34)); have n0 : w4.cell? ⟨(w1.heap.size + 1), 0, none⟩ = some (.int .u8 t0) := bk_cell k84 0; have n1 : w4.cell? ⟨(w1.heap.size + 1), 1, none⟩ = some (.int .u8 t1) := bk_cell k84 1; have n2 : w4.cell? ⟨(w1.heap.size + 1), 2, none⟩ = some (.int .u8 t2) := bk_cell k84 2; have n3 : w4.cell? ⟨(w1.heap.size + 1), 3, none⟩ = some (.int .u8 t3) := bk_cell k84 3; have n4 : w4.cell? ⟨(w1.heap.size + 1), 4, none⟩ = some (.int .u8 t4) := bk_cell k84 4; have n5 : w4.cell? ⟨(w1.heap.size + 1), 5, none⟩ = some (.int .u8 t5) := bk_cell k84 5; have n6 : w4.cell? ⟨(w1.heap.size + 1), 6, none⟩ = some (.int .u8 t6) := bk_cell k84 6; have n7 : w4.cell? ⟨(w1.heap.size + 1), 7, none⟩ = some (.int .u8 t7) := bk_cell k84 7; have p0 : w4.cell? ⟨w1.heap.size, 0, none⟩ = some (.int .i64 K.f) := bk_cell kP4 0; have p1 : w4.cell? ⟨w1.heap.size, 1, none⟩ = some (.int .i64 K.v) := bk_cell kP4 1; have p2 : w4.cell? ⟨w1.heap.size, 2, none⟩ = some (.slice da K.d.length dp) := bk_cell kP4 2; have p3 : w4.cell? ⟨w1.heap.size, 3, none⟩ = some (.slice sa K.s.length sp) := bk_cell kP4 3; have p4 : w4.cell? ⟨w1.heap.size, 4, none⟩ = some (.slice ta K.t.length tp) := bk_cell kP4 4; have p5 : w4.cell? ⟨w1.heap.size, 5, none⟩ = some (.int .i64 0) := bk_cell kP4 5; have p6 : w4.cell? ⟨w1.heap.size, 6, none⟩ = some (.int .i64 0) := bk_cell kP4 6; have p7 : w4.cell? ⟨w1.heap.size, 7, none⟩ = some (.int .i64 0) := bk_cell kP4 7; have p8 : w4.cell? ⟨w1.heap.size, 8, none⟩ = some (.slice va K.vers.length vp) := bk_cell kP4 8; have p9 : w4.cell? ⟨w1.heap.size, 9, none⟩ = some (.int .i64 K.na) := bk_cell kP4 9; have p10 : w4.cell? ⟨w1.heap.size, 10, none⟩ = some (.int .i64 K.fin) := bk_cell kP4 10; obtain ⟨zc0, zc1, zc2, zc3, zc4, zc5, zc6, zc7⟩ := hdB_cells k04; obtain ⟨zf0, zf1, zf2, zf3, zf4, zf5, zf6, zf7⟩ := hdB_free k04; clear k84 kP4 k04 b34 b4))
  all_goals
    go_wp2_with fail
    refine bodyPost_ret (v := .tuple #[.agg #[.int .i64 K.f, .int .i64 K.v, .slice da K.d.length dp, .slice sa K.s.length sp, .slice ta K.t.length tp, .int .i64 0, .int .i64 0, .int .i64 0], .int .i64 0]) ?_ rfl ?_
    · exact results_row_tmpP (t := 24) rfl _ _ w.heap.size _ (fr := (0, 0)) _ _ rfl rfl (st8_heap (a0 := .int .i64 K.f) (a1 := .int .i64 K.v) (a2 := .slice da K.d.length dp) (a3 := .slice sa K.s.length sp) (a4 := .slice ta K.t.length tp) (a5 := .int .i64 0) (a6 := .int .i64 0) (a7 := .int .i64 0) H4.out.1) Tryz.underlying24 rfl infoHd
    · exact ⟨_, _, _, rfl, H4.out.2.2.st8I (by omega) (by omega), st8_below (a0 := .int .i64 K.f) (a1 := .int .i64 K.v) (a2 := .slice da K.d.length dp) (a3 := .slice sa K.s.length sp) (a4 := .slice ta K.t.length tp) (a5 := .int .i64 0) (a6 := .int .i64 0) (a7 := .int .i64 0) H4.out.2.1 (Nat.le_refl _)⟩
set_option maxRecDepth 200000 in
set_option maxHeartbeats 8000000 in
theorem roU_bad (b off q cap : Nat) (ap : Option Addr) (m cp : Nat) (K : PK) (xs o : List Int) (w : World) (hq : q ≤ 87) (hm : m ≤ 8) (hlie : Lies w b off (q + 8) cap xs) (hB : Bytes xs) (ro : Row w .u8 (.slice ap m cp) o) (eo : o.length = m) (bo : Bytes o) (h3 : K.f = 3) (hp : Calls Tryz.prog 36 #[.slice (some ⟨b, off, none⟩) (q + 8) cap, .int .i64 0] ((w.alloc hd0).alloc (.cells #[.slice ap m cp] 22)) fun e w' => Below ((w.alloc hd0).alloc (.cells #[.slice ap m cp] 22)).heap.size ((w.alloc hd0).alloc (.cells #[.slice ap m cp] 22)) w' ∧ ∃ vd vs vt vv, e = .returned (.tuple #[.agg (pkA K vd vs vt vv), .nilIface]) ∧ HOwn w' ((w.alloc hd0).alloc (.cells #[.slice ap m cp] 22)).heap.size vd vs vt ⟨K.f, K.v, K.d, K.s, K.t, 0, 0, 0⟩ ∧ w'.ownsRow ((w.alloc hd0).alloc (.cells #[.slice ap m cp] 22)).heap.size 3 1 vv K.vers.length (K.vers.map (Value.int .i64))) (heq : retV o (xs.take q) ≠ xs.drop q) :
    Calls Tryz.prog 7 #[.slice (some ⟨b, off, none⟩) (q + 8) cap, .slice ap m cp] w fun e w' => e = .returned (.tuple #[.agg #[.int .i64 0, .int .i64 0, .slice none 0 0, .slice none 0 0, .slice none 0 0, .int .i64 0, .int .i64 0, .int .i64 0], .int .i64 13]) ∧ Below w.heap.size w w' := by
  have C := ro_cidsC ap m cp o w ro eo (by omega)
  rw [decide_eq_true (by omega)] at C
  obtain ⟨kb0, k00⟩ := ro_w2 ap m cp w
  have d : decide ((65536 : Int) < (q : Int) + 8) = false := decide_eq_false (by omega)
  have d3 : (K.f != 3) = false := by simp [h3]
  have hcap : cap ≤ 9223372036854775807 := Nat.le_trans hlie.most (by decide)
  have hfit : q + 8 ≤ cap := hlie.fits
  have hne : ¬ cap = q := by omega
  have hpn : (q : Int) ≤ (cap : Int) := by omega
  have hpn8 : (q : Int) ≤ (q : Int) + 8 := by omega
  have e88 : q + 8 - q = 8 := by omega
  have rP : Row w .u8 (.slice (some ⟨b, off, none⟩) q cap) (xs.take q) := by
    have := hlie.row 0 q (by omega)
    simpa using this
  have rT : Row w .u8 (.slice (some ⟨b, off + q, none⟩) 8 (cap - q)) (xs.drop q) := by
    have := hlie.row q 8 (by omega)
    rw [List.take_of_length_le (by rw [List.length_drop, hlie.len]; omega)] at this
    exact this
  have bP : Bytes (xs.take q) := fun x hx => hB x (List.mem_of_mem_take hx)
  have lP : (xs.take q).length = q := by rw [List.length_take, hlie.len]; omega
  have lT : (xs.drop q).length = 8 := by rw [List.length_drop, hlie.len]; omega
  have HE : Hid _ := And.intro kb0 (And.intro k00 (And.intro ro (And.intro rP (And.intro rT (And.intro bP (And.intro lP (And.intro lT (And.intro eo (And.intro bo (And.intro hm (And.intro hq heq)))))))))))
  clear kb0 k00 hm hlie hB h3 hq ro rP rT bP lP lT eo bo heq
  go_enter Tryz.func7, Tryz.ntmps7
  go_wp2_with fail
  go_at_call 29
  refine C.mono ?_
  rintro e w1 ⟨rfl, hw⟩
  subst w1
  clear C
  go_wp2_with fail
  go_at_call 36
  refine hp.mono ?_
  clear hp
  rintro e w1 ⟨b1, vd, vs, vt, vv, rfl, q2, q3⟩
  obtain ⟨da, dp, ed⟩ := (row_of_owns q2.o0).form
  obtain ⟨sa, sp, es⟩ := (row_of_owns q2.o1).form
  obtain ⟨ta, tp, et⟩ := (row_of_owns q2.o2).form
  obtain ⟨va, vp, ev⟩ := (row_of_owns (k := .i64) q3).form
  dsimp only at ed es et
  subst ed es et ev
  unfold pkA
  have B1 : Below w.heap.size w w1 := HE.out.1.trans (b1.mono HE.out.1.size)
  have e1 := (b1.block w.heap.size (by have := HE.out.2.1; exact (Array.getElem?_eq_some_iff.1 this).1)).trans HE.out.2.1
  have l1 : w.heap.size < w1.heap.size := (Array.getElem?_eq_some_iff.1 e1).1
  have A1 : Below w1.heap.size w1 ((w1.alloc (.cells #[.int .i64 K.f, .int .i64 K.v, .slice da K.d.length dp, .slice sa K.s.length sp, .slice ta K.t.length tp, .int .i64 0, .int .i64 0, .int .i64 0, .slice va K.vers.length vp, .int .i64 K.na, .int .i64 K.fin] 62)).alloc (.cells #[.int .u8 0, .int .u8 0, .int .u8 0, .int .u8 0, .int .u8 0, .int .u8 0, .int .u8 0, .int .u8 0] 58)) := ((Below.refl _ _).alloc (Nat.le_refl _) _).alloc (by simp) _
  have kP : ((w1.alloc (.cells #[.int .i64 K.f, .int .i64 K.v, .slice da K.d.length dp, .slice sa K.s.length sp, .slice ta K.t.length tp, .int .i64 0, .int .i64 0, .int .i64 0, .slice va K.vers.length vp, .int .i64 K.na, .int .i64 K.fin] 62)).alloc (.cells #[.int .u8 0, .int .u8 0, .int .u8 0, .int .u8 0, .int .u8 0, .int .u8 0, .int .u8 0, .int .u8 0] 58)).heap[w1.heap.size]? = some (.cells #[.int .i64 K.f, .int .i64 K.v, .slice da K.d.length dp, .slice sa K.s.length sp, .slice ta K.t.length tp, .int .i64 0, .int .i64 0, .int .i64 0, .slice va K.vers.length vp, .int .i64 K.na, .int .i64 K.fin] 62 (0, 0)) := by
    rw [Below.heap_alloc _ _ _ (by simp)]; exact heap_alloc_new w1 _
  have k8 : ((w1.alloc (.cells #[.int .i64 K.f, .int .i64 K.v, .slice da K.d.length dp, .slice sa K.s.length sp, .slice ta K.t.length tp, .int .i64 0, .int .i64 0, .int .i64 0, .slice va K.vers.length vp, .int .i64 K.na, .int .i64 K.fin] 62)).alloc (.cells #[.int .u8 0, .int .u8 0, .int .u8 0, .int .u8 0, .int .u8 0, .int .u8 0, .int .u8 0, .int .u8 0] 58)).heap[w1.heap.size + 1]? = some (.cells #[.int .u8 0, .int .u8 0, .int .u8 0, .int .u8 0, .int .u8 0, .int .u8 0, .int .u8 0, .int .u8 0] 58 (0, 0)) := by
    have := heap_alloc_new (w1.alloc (.cells #[.int .i64 K.f, .int .i64 K.v, .slice da K.d.length dp, .slice sa K.s.length sp, .slice ta K.t.length tp, .int .i64 0, .int .i64 0, .int .i64 0, .slice va K.vers.length vp, .int .i64 K.na, .int .i64 K.fin] 62)) (.cells #[.int .u8 0, .int .u8 0, .int .u8 0, .int .u8 0, .int .u8 0, .int .u8 0, .int .u8 0, .int .u8 0] 58)
    simpa using this
  have k0 : hdB ((w1.alloc (.cells #[.int .i64 K.f, .int .i64 K.v, .slice da K.d.length dp, .slice sa K.s.length sp, .slice ta K.t.length tp, .int .i64 0, .int .i64 0, .int .i64 0, .slice va K.vers.length vp, .int .i64 K.na, .int .i64 K.fin] 62)).alloc (.cells #[.int .u8 0, .int .u8 0, .int .u8 0, .int .u8 0, .int .u8 0, .int .u8 0, .int .u8 0, .int .u8 0] 58)) w.heap.size (.int .i64 0) (.int .i64 0) (.slice none 0 0) (.slice none 0 0) (.slice none 0 0) (.int .i64 0) (.int .i64 0) (.int .i64 0) := (A1.block w.heap.size l1).trans e1
  have hol : ∀ v : Value, v = .slice da K.d.length dp ∨ v = .slice sa K.s.length sp ∨ v = .slice ta K.t.length tp → ∀ j, v.ownBlock = some j → j < w1.heap.size + 1 := by
    intro v hv j hj
    rcases hv with rfl | rfl | rfl
    · have := (q2.o0.lt j hj).2; omega
    · have := (q2.o1.lt j hj).2; omega
    · have := (q2.o2.lt j hj).2; omega
  have lb : ((w.alloc hd0).alloc (.cells #[.slice ap m cp] 22)).heap.size = w.heap.size + 2 := by simp
  have ho2 := q2.belowI A1
  rw [lb] at ho2
  have H0 : Hid _ := And.intro kP (And.intro k8 (And.intro k0 (And.intro (B1.trans (A1.mono B1.size)) (And.intro ho2 (And.intro hol l1)))))
  clear kP k8 k0 ho2 A1 e1 B1 b1 lb q2 q3 hol l1
  go_wp2_with fail
  generalize (w1.alloc (.cells #[.int .i64 K.f, .int .i64 K.v, .slice da K.d.length dp, .slice sa K.s.length sp, .slice ta K.t.length tp, .int .i64 0, .int .i64 0, .int .i64 0, .slice va K.vers.length vp, .int .i64 K.na, .int .i64 K.fin] 62)).alloc (.cells #[.int .u8 0, .int .u8 0, .int .u8 0, .int .u8 0, .int .u8 0, .int .u8 0, .int .u8 0, .int .u8 0] 58) = W at H0 ⊢
  have RD : Hid (Row W.drew .u8 (.slice (some ⟨b, off + q, none⟩) 8 (cap - q)) (xs.drop q)) := HE.out.2.2.2.2.1.below H0.out.2.2.2.1.drew
  have G8 : Hid (W.drew.heap[w1.heap.size + 1]? = some (.cells (u8s (List.replicate 8 0)).toArray 58 (0, 0))) := H0.out.2.1
  have g8l : w1.heap.size + 1 < W.heap.size := (Array.getElem?_eq_some_iff.1 H0.out.2.1).1
  go_region_law (refine step_copy_at rfl (.tmp 37) (.tmp 40) 22 22 rfl 5 Tryz.underlying22 infoU8r (w1.heap.size + 1) 0 8 8 _ rfl rfl (xs.drop q) RD.out (by rw [HE.out.2.2.2.2.2.2.2.1]; decide) (List.replicate 8 0) 58 G8.out 8 (by rw [HE.out.2.2.2.2.2.2.2.1]; rfl) (by simp) ?_; intro w3 h3 m3)
  have e3 : splice (List.replicate 8 (0 : Int)) 0 ((xs.drop q).take 8) = xs.drop q := by
    have : ((xs.drop q).take 8) = xs.drop q := List.take_of_length_le (by rw [HE.out.2.2.2.2.2.2.2.1]; decide)
    rw [this]
    simp [splice, HE.out.2.2.2.2.2.2.2.1]
  rw [e3] at h3
  have B3 : Below w.heap.size w w3 := H0.out.2.2.2.1.drew.trans (m3.below (by have := H0.out.2.2.2.2.2.2; omega))
  have P3 := (m3.block w1.heap.size (fun e => by have := Option.some.inj e; omega)).trans H0.out.1
  have Z3 := (m3.block w.heap.size (fun e => by have := Option.some.inj e; have := H0.out.2.2.2.2.2.2; omega)).trans H0.out.2.2.1
  have O3 := HOwn.onlyI m3 (H0.out.2.2.2.2.1.belowI (Below.refl _ _).drew) H0.out.2.2.2.2.2.1
  obtain ⟨t0, t1, t2, t3, t4, t5, t6, t7, et⟩ := listR8 (xs.drop q) HE.out.2.2.2.2.2.2.2.1
  obtain ⟨r0, r1, r2, r3, r4, r5, r6, r7, er⟩ := listR8 (retV o (xs.take q)) (retV_length _ _)
  rw [et] at h3
  have h3' : w3.heap[w1.heap.size + 1]? = some (.cells #[.int .u8 t0, .int .u8 t1, .int .u8 t2, .int .u8 t3, .int .u8 t4, .int .u8 t5, .int .u8 t6, .int .u8 t7] 58 (0, 0)) := h3
  have CT := iretTag ap (some ⟨b, off, none⟩) m q cp cap o (xs.take q) w3.drew (HE.out.2.2.1.below B3.drew) (HE.out.2.2.2.1.below B3.drew) HE.out.2.2.2.2.2.2.2.2.1 HE.out.2.2.2.2.2.2.1 HE.out.2.2.2.2.2.2.2.2.2.2.1 (by have := HE.out.2.2.2.2.2.2.2.2.2.2.2.1; omega) HE.out.2.2.2.2.2.2.2.2.2.1 HE.out.2.2.2.2.2.1
  rw [er] at CT
  have CT' : Calls Tryz.prog 32 #[.slice ap m cp, .slice (some ⟨b, off, none⟩) q cap] w3.drew fun e w' => e = .returned (.agg #[.int .u8 r0, .int .u8 r1, .int .u8 r2, .int .u8 r3, .int .u8 r4, .int .u8 r5, .int .u8 r6, .int .u8 r7]) ∧ Below w3.drew.heap.size w3.drew w' := CT
  have nb := neq8_run r0 r1 r2 r3 r4 r5 r6 r7 t0 t1 t2 t3 t4 t5 t6 t7
  have hcmp : decide ([r0, r1, r2, r3, r4, r5, r6, r7] = [t0, t1, t2, t3, t4, t5, t6, t7]) = false := by rw [← et, ← er]; exact decide_eq_false HE.out.2.2.2.2.2.2.2.2.2.2.2.2
  rw [hcmp] at nb
  have gd := fun (w : World) => grd8_run (.tmp 46) (.tmp 47) #[.int .u8 r0, .int .u8 r1, .int .u8 r2, .int .u8 r3, .int .u8 r4, .int .u8 r5, .int .u8 r6, .int .u8 r7] #[.int .u8 t0, .int .u8 t1, .int .u8 t2, .int .u8 t3, .int .u8 t4, .int .u8 t5, .int .u8 t6, .int .u8 t7] w
  have H3 : Hid _ := And.intro h3' (And.intro P3 (And.intro Z3 (And.intro B3 (And.intro O3 CT'))))
  have g83 : w1.heap.size + 1 < w3.heap.size := (Array.getElem?_eq_some_iff.1 h3').1
  have s0 : w3.drew.cell? ⟨(w1.heap.size + 1), 0, none⟩ = some (.int .u8 t0) := bk_cell h3' 0
  have s1 : w3.drew.cell? ⟨(w1.heap.size + 1), 1, none⟩ = some (.int .u8 t1) := bk_cell h3' 1
  have s2 : w3.drew.cell? ⟨(w1.heap.size + 1), 2, none⟩ = some (.int .u8 t2) := bk_cell h3' 2
  have s3 : w3.drew.cell? ⟨(w1.heap.size + 1), 3, none⟩ = some (.int .u8 t3) := bk_cell h3' 3
  have s4 : w3.drew.cell? ⟨(w1.heap.size + 1), 4, none⟩ = some (.int .u8 t4) := bk_cell h3' 4
  have s5 : w3.drew.cell? ⟨(w1.heap.size + 1), 5, none⟩ = some (.int .u8 t5) := bk_cell h3' 5
  have s6 : w3.drew.cell? ⟨(w1.heap.size + 1), 6, none⟩ = some (.int .u8 t6) := bk_cell h3' 6
  have s7 : w3.drew.cell? ⟨(w1.heap.size + 1), 7, none⟩ = some (.int .u8 t7) := bk_cell h3' 7

  clear e3 h3 m3 B3 P3 Z3 O3 CT CT' h3' RD G8 hcmp et er
  go_wp2_with fail
  go_region_with (first | (go_at_call 32; refine H3.out.2.2.2.2.2.mono ?_; rintro e w4 ⟨rfl, b4⟩; have b34 : Below w3.heap.size w3 w4 := ((Below.refl _ _).drew).trans b4; have k84 := (b34.block (w1.heap.size + 1) g83).trans H3.out.1; have kP4 := (b34.block w1.heap.size (by omega)).trans H3.out.2.1; have k04 := (b34.block w.heap.size (Array.getElem?_eq_some_iff.1 H3.out.2.2.1).1).trans H3.out.2.2.1; have H4 : Hid _ := And.intro k04 (And.intro (H3.out.2.2.2.1.trans (b34.mono H3.out.2.2.2.1.size)) (H3.out.2.2.2.2.1.belowI b34)); have n0 : w4.cell? ⟨(w1.heap.size + 1), 0, none⟩ = some (.int .u8 t0) := bk_cell k84 0; have n1 : w4.cell? ⟨(w1.heap.size + 1), 1, none⟩ = some (.int .u8 t1) := bk_cell k84 1; have n2 : w4.cell? ⟨(w1.heap.size + 1), 2, none⟩ = some (.int .u8 t2) := bk_cell k84 2; have n3 : w4.cell? ⟨(w1.heap.size + 1), 3, none⟩ = some (.int .u8 t3) := bk_cell k84 3; have n4 : w4.cell? ⟨(w1.heap.size + 1), 4, none⟩ = some (.int .u8 t4) := bk_cell k84 4; have n5 : w4.cell? ⟨(w1.heap.size + 1), 5, none⟩ = some (.int .u8 t5) := bk_cell k84 5; have n6 : w4.cell? ⟨(w1.heap.size + 1), 6, none⟩ = some (.int .u8 t6) := bk_cell k84 6; have n7 : w4.cell? ⟨(w1.heap.size + 1), 7, none⟩ = some (.int .u8 t7) := bk_cell k84 7; have p0 : w4.cell? ⟨w1.heap.size, 0, none⟩ = some (.int .i64 K.f) := bk_cell kP4 0; have p1 : w4.cell? ⟨w1.heap.size, 1, none⟩ = some (.int .i64 K.v) := bk_cell kP4 1; have p2 : w4.cell? ⟨w1.heap.size, 2, none⟩ = some (.slice da K.d.length dp) := bk_cell kP4 2; have p3 : w4.cell? ⟨w1.heap.size, 3, none⟩ = some (.slice sa K.s.length sp) := bk_cell kP4 3; have p4 : w4.cell? ⟨w1.heap.size, 4, none⟩ = some (.slice ta K.t.length tp) := bk_cell kP4 4; have p5 : w4.cell? ⟨w1.heap.size, 5, none⟩ = some (.int .i64 0) := bk_cell kP4 5; have p6 : w4.cell? ⟨w1.heap.size, 6, none⟩ = some (.int .i64 0) := bk_cell kP4 6; have p7 : w4.cell? ⟨w1.heap.size, 7, none⟩ = some (.int .i64 0) := bk_cell kP4 7; have p8 : w4.cell? ⟨w1.heap.size, 8, none⟩ = some (.slice va K.vers.length vp) := bk_cell kP4 8; have p9 : w4.cell? ⟨w1.heap.size, 9, none⟩ = some (.int .i64 K.na) := bk_cell kP4 9; have p10 : w4.cell? ⟨w1.heap.size, 10, none⟩ = some (.int .i64 K.fin) := bk_cell kP4 10; obtain ⟨zc0, zc1, zc2, zc3, zc4, zc5, zc6, zc7⟩ := hdB_cells k04; obtain ⟨zf0, zf1, zf2, zf3, zf4, zf5, zf6, zf7⟩ := hdB_free k04; clear k84 kP4 k04 b34 b4))
  all_goals
    go_wp2_with fail
    refine bodyPost_ret (v := .tuple #[.agg #[.int .i64 0, .int .i64 0, .slice none 0 0, .slice none 0 0, .slice none 0 0, .int .i64 0, .int .i64 0, .int .i64 0], .int .i64 13]) ?_ rfl ?_
    · exact results_row_tmpP (t := 24) rfl _ _ w.heap.size _ (fr := (0, 0)) _ _ rfl rfl (st8_heap (a0 := .int .i64 0) (a1 := .int .i64 0) (a2 := .slice none 0 0) (a3 := .slice none 0 0) (a4 := .slice none 0 0) (a5 := .int .i64 0) (a6 := .int .i64 0) (a7 := .int .i64 0) H4.out.1) Tryz.underlying24 rfl infoHd
    · exact ⟨rfl, st8_below (a0 := .int .i64 0) (a1 := .int .i64 0) (a2 := .slice none 0 0) (a3 := .slice none 0 0) (a4 := .slice none 0 0) (a5 := .int .i64 0) (a6 := .int .i64 0) (a7 := .int .i64 0) H4.out.2.1 (Nat.le_refl _)⟩
end Go.Proofs.YtoalillggafnpaaGreatDoor
