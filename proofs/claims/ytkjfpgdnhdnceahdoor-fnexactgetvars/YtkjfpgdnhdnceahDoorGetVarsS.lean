import Derived.Test.YtkjfpgdnhdnceahDoorGetVarsI
import Derived.Test.YtkjfpgdnhdnceahDoorGetVarP
import Derived.Test.YtkjfpgdnhdnceahDoorStr
namespace Go.Proofs.YtkjfpgdnhdnceahDoor
open Go.RowKit
set_option linter.unusedVariables false

theorem specGVs_long (ao : Option Addr) (n cap : Nat) (w : World) (h : 65536 < n) (hm : n ≤ 9223372036854775807) :
    Calls Tryd.prog 17 #[.slice ao n cap] w fun e w' => ∃ r, e = .returned (.tuple #[r, .int .i64 4]) ∧ w'.ownsRow w.heap.size 3 1 r 0 (([] : List Int).map (Value.int .i64)) ∧ Below w.heap.size w w' := by
  go_enter Tryd.func17, Tryd.ntmps17
  go_wp2
  go_ret2
  exact ⟨_, rfl, World.ownsRow_lit _ #[] 0 (Nat.le_refl _) (by decide) rfl, (Below.refl _ _).alloc (Nat.le_refl _) _⟩

theorem specGVs_head (ao : Option Addr) (n cap : Nat) (x y c : Int) (w : World) (h : n ≤ 65536) (hx : 0 ≤ x ∧ x ≤ 4611686018427387903)
    (hG : Calls Tryd.prog 6 #[.slice ao n cap, .int .i64 0] w fun e w' => e = .returned (.tuple #[.int .i64 x, .int .i64 y, .int .i64 c]) ∧ w' = w) (hb : ¬ c = 0 ∨ 4096 < x) :
    Calls Tryd.prog 17 #[.slice ao n cap] w fun e w' => ∃ r, e = .returned (.tuple #[r, .int .i64 3]) ∧ w'.ownsRow w.heap.size 3 1 r 0 (([] : List Int).map (Value.int .i64)) ∧ Below w.heap.size w w' := by
  by_cases hc : c = 0
  · have hx' : 4096 < x := by omega
    have hc' : (c != 0) = false := by simp [hc]
    clear hb hc
    go_enter Tryd.func17, Tryd.ntmps17
    go_wp2_with (go_at_call 6; refine hG.mono ?_; rintro e w' ⟨rfl, hw⟩; rw [hw]; clear hw w')
    go_ret2
    exact ⟨_, rfl, World.ownsRow_lit _ #[] 0 (Nat.le_refl _) (by decide) rfl, (Below.refl _ _).alloc (Nat.le_refl _) _⟩
  · have hc' : (c != 0) = true := by simp [hc]
    clear hb hc
    go_enter Tryd.func17, Tryd.ntmps17
    go_wp2_with (go_at_call 6; refine hG.mono ?_; rintro e w' ⟨rfl, hw⟩; rw [hw]; clear hw w')
    go_ret2
    exact ⟨_, rfl, World.ownsRow_lit _ #[] 0 (Nat.le_refl _) (by decide) rfl, (Below.refl _ _).alloc (Nat.le_refl _) _⟩

/-- N 0, .., N (k - 1). -/
def firsts (N : Nat → Int) (k : Nat) : List Int := (List.range k).map N
theorem firsts_length (N : Nat → Int) (k : Nat) : (firsts N k).length = k := by simp [firsts]
theorem firsts_succ (N : Nat → Int) (k : Nat) : firsts N (k + 1) = firsts N k ++ [N k] := by simp [firsts, List.range_succ]

def SRes (c q : Nat) (N : Nat → Int) (same : Prop) (w w' : World) (e : Ending) : Prop := ∃ r, Below w.heap.size w w' ∧
      ((q = c ∧ same ∧ e = .returned (.tuple #[r, .int .i64 0]) ∧ w'.ownsRow w.heap.size 3 1 r c ((firsts N c).map (Value.int .i64))) ∨
       (¬ (q = c ∧ same) ∧ e = .returned (.tuple #[r, .int .i64 3]) ∧ w'.ownsRow w.heap.size 3 1 r 0 (([] : List Int).map (Value.int .i64))))

/-- What one append of the loop does. -/
theorem push_step {w wr w1 w2 : World} {v v' : Value} {N : Nat → Int} {k : Nat} (hown : wr.ownsRow w.heap.size 3 1 v k ((firsts N k).map (Value.int .i64))) (hb : Below w.heap.size w wr) (hb1 : Below wr.heap.size wr w1)
    (hown' : w2.ownsRow w.heap.size 3 1 v' (k + 1) ((firsts N k).map (Value.int .i64) ++ [Value.int .i64 (N k)])) (hgrow : w1.grownBy w2 v.ownBlock) :
    w2.ownsRow w.heap.size 3 1 v' (k + 1) ((firsts N (k + 1)).map (Value.int .i64)) ∧ Below w.heap.size w w2 := by
  refine ⟨by rw [firsts_succ, List.map_append]; exact hown', ?_⟩
  refine (hb.trans (hb1.mono hb.size)).grown hgrow (Nat.le_trans hb.size hb1.size) ?_
  intro j hj
  exact (hown.lt j hj).1

set_option maxHeartbeats 1000000 in
theorem specGVs_loop (b off n cap c q : Nat) (P N C : Nat → Int) (xs zs : List Int) (w : World) (h : n ≤ 65536) (hlx : xs.length = n) (hc : c ≤ 4096) (hq : q ≤ c) (hP : ∀ k, 0 ≤ P k ∧ P k ≤ 65536)
    (h0 : Calls Tryd.prog 6 #[.slice (some ⟨b, off, none⟩) n cap, .int .i64 0] w fun e w' => e = .returned (.tuple #[.int .i64 (c : Int), .int .i64 (P 0), .int .i64 0]) ∧ w' = w)
    (hG : ∀ (k : Nat) (wr : World), Below w.heap.size w wr → Calls Tryd.prog 6 #[.slice (some ⟨b, off, none⟩) n cap, .int .i64 (P k)] wr fun e w' => e = .returned (.tuple #[.int .i64 (N k), .int .i64 (P (k + 1)), .int .i64 (C k)]) ∧ w' = wr)
    (hC : ∀ k, k < q → C k = 0) (hend : q < c → ¬ C q = 0) (hbl : b < w.heap.size) (hcell : ∀ j, j < n → w.cell? ⟨b, off + j, none⟩ = some (.int .u8 (xs.getD j 0)))
    (hxB : Bytes xs) (hzB : Bytes zs) (hzn : 0 < zs.length)
    (hPV : ∀ (wr : World) (v : Value), Row wr .i64 v (firsts N c) → Calls Tryd.prog 10 #[v] wr fun e w' => ∃ r, e = .returned (.tuple #[r, .int .i64 0]) ∧ w'.ownsRow wr.heap.size 5 1 r zs.length (zs.map (Value.int .u8)) ∧ Below wr.heap.size wr w') :
    Calls Tryd.prog 17 #[.slice (some ⟨b, off, none⟩) n cap] w fun e w' => SRes c q N (zs = xs) w w' e := by
  obtain ⟨i0, hi, hz0, hz1, hz2⟩ := info_parts infoI64
  have HG : Hid (∀ (k : Nat) (wr : World), Below w.heap.size w wr → Calls Tryd.prog 6 #[.slice (some ⟨b, off, none⟩) n cap, .int .i64 (P k)] wr fun e w' => e = .returned (.tuple #[.int .i64 (N k), .int .i64 (P (k + 1)), .int .i64 (C k)]) ∧ w' = wr) := hG
  have HC : Hid ((∀ k, k < q → C k = 0) ∧ (q < c → ¬ C q = 0)) := ⟨hC, hend⟩
  have HP : Hid (∀ k, 0 ≤ P k ∧ P k ≤ 65536) := hP
  have HX : Hid (xs.length = n ∧ (∀ j, j < n → w.cell? ⟨b, off + j, none⟩ = some (.int .u8 (xs.getD j 0))) ∧ Bytes xs ∧ Bytes zs ∧ 0 < zs.length) := ⟨hlx, hcell, hxB, hzB, hzn⟩
  have HPV : Hid (∀ (wr : World) (v : Value), Row wr .i64 v (firsts N c) → Calls Tryd.prog 10 #[v] wr fun e w' => ∃ r, e = .returned (.tuple #[r, .int .i64 0]) ∧ w'.ownsRow wr.heap.size 5 1 r zs.length (zs.map (Value.int .u8)) ∧ Below wr.heap.size wr w') := hPV
  clear hG hC hend hP hlx hcell hxB hzB hzn hPV
  go_enter Tryd.func17, Tryd.ntmps17
  go_wp2_with (go_at_call 6; refine h0.mono ?_; rintro e w' ⟨rfl, hw⟩; rw [hw]; clear hw w')
  clear h0
  go_loopw [5, 7, 8] (fun s v i wr => ∃ k : Nat, k ≤ q ∧ i = .int .i64 k ∧ s = .int .i64 (P k) ∧ wr.ownsRow w.heap.size 3 1 v k ((firsts N k).map (Value.int .i64)) ∧ Below w.heap.size w wr) (fun _ _ i _ => c - (intOf i).toNat)
  case atStart =>
    exact ⟨0, Nat.zero_le _, rfl, rfl, World.ownsRow_lit _ #[] 0 (Nat.le_refl _) (by decide) rfl, (Below.refl _ _).alloc (Nat.le_refl _) _⟩
  case round =>
    obtain ⟨k, hk, rfl, rfl, hown, hb⟩ := hrel
    by_cases hlt : k < c
    · have G := HG.out k wr hb
      by_cases hkq : k < q
      · have hC := HC.out.1 k hkq
        rw [hC] at G
        obtain ⟨x, ex⟩ : ∃ x, x = N k := ⟨_, rfl⟩
        rw [← ex] at G
        have EX : Hid (x = N k) := ex
        clear hC ex
        go_wp2_with (first
          | (go_at_call 6; refine G.mono ?_; rintro e w' ⟨rfl, hw⟩; rw [hw]; clear hw w')
          | (at_builtin; refine wpList_append_own _ rfl _ _ 28 rfl w.heap.size 3 i0 (.int .i64 0) 1 8 Tryd.underlying28 hi hz0 hz1 hz2 rfl (by decide) _ _ _ rfl (hown.alloc _) ⟨wr.heap.size, 0, none⟩ 1 1 [.int .i64 x] rfl rfl ?c1 ?c2 ?c3 ?c4 ?c5 ?_))
        case c1 =>
          intro j u hj
          match j, hj with
          | 0, hj => simp at hj; subst hj; simp [Addr.add]
        case c2 => intro u hu; simp at hu; subst hu; rfl
        case c3 => unfold maxLen; omega
        case c4 => omega
        case c5 => have := hb.size; simp; omega
        intro v' w2 hown2 hgrow _
        rw [EX.out] at hown2
        have R := push_step hown hb ((Below.refl _ _).alloc (Nat.le_refl _) _) hown2 hgrow
        have HR : Hid _ := R
        clear R hown2 hgrow hown hb G
        go_wp2
        go_roundw
        case rel => exact ⟨k + 1, by omega, by go_num, rfl, HR.out.1, HR.out.2⟩
        case measure => simp [intOf]; omega
      · obtain rfl : k = q := by omega
        have hC := HC.out.2 hlt
        have hC' : (C k != 0) = true := by simp [hC]
        clear hC
        go_wp2_with (go_at_call 6; refine G.mono ?_; rintro e w' ⟨rfl, hw⟩; rw [hw]; clear hw w')
        go_ret2
        unfold SRes
        exact ⟨_, hb.alloc hb.size _, Or.inr ⟨fun h => by omega, rfl, World.ownsRow_lit _ #[] 0 hb.size (by decide) rfl⟩⟩
    · obtain rfl : k = c := by omega
      obtain rfl : k = q := by omega
      have PV := HPV.out wr _ (row_of_owns hown)
      go_wp2_with fail
      go_at_call 10
      refine PV.mono ?_
      rintro e w2 ⟨r, rfl, oz, bz⟩
      obtain ⟨g, cp, rfl, hg, hgl⟩ := owns_shape oz HX.out.2.2.2.2
      have bw : Below w.heap.size w w2 := hb.trans (bz.mono hb.size)
      have ol := owns_below hown bz
      have hcv1 := run_convert_bytes_arg (P := Tryd.prog) w2 22 5 Tryd.underlying22 Tryd.underlying5 g 0 zs.length cp zs rfl (fun i hi => by rw [Nat.zero_add]; exact owns_cell oz rfl hi) 9 Tryd.underlying9
      have hcv2 := run_convert_bytes_arg (P := Tryd.prog) w2 22 5 Tryd.underlying22 Tryd.underlying5 b off n cap xs HX.out.1 (fun i hi => (bw.cell (p := ⟨b, off + i, none⟩) hbl).trans (HX.out.2.1 i hi)) 9 Tryd.underlying9
      have HO : Hid _ := And.intro ol bw
      have HJ : Hid _ := str_inj zs xs HX.out.2.2.2.1 HX.out.2.2.1
      obtain ⟨s1, e1⟩ : ∃ s, s = strOfNums zs := ⟨_, rfl⟩
      obtain ⟨s2, e2⟩ : ∃ s, s = strOfNums xs := ⟨_, rfl⟩
      rw [← e1] at hcv1 HJ
      rw [← e2] at hcv2 HJ
      clear e1 e2 hown hb oz bz PV bw ol
      obtain ⟨m, em⟩ : ∃ m, m = zs.length := ⟨_, rfl⟩
      rw [← em] at hcv1 ⊢
      clear em
      by_cases hzx : zs = xs
      · have htt : (!s1.toList == s2.toList) = false := by rw [HJ.out.2 hzx]; simp
        have HZ : Hid (zs = xs) := hzx
        clear hzx
        go_wp2
        go_ret2
        unfold SRes
        exact ⟨_, HO.out.2, Or.inl ⟨rfl, HZ.out, rfl, HO.out.1⟩⟩
      · have htt : (!s1.toList == s2.toList) = true := by
          have hne : s1.toList ≠ s2.toList := by
            intro e
            rw [ByteArray.toList_eq, ByteArray.toList_eq] at e
            exact hzx (HJ.out.1 (Go.WideShapes.bytes_inj e))
          simp [hne]
        have HZ : Hid (¬ zs = xs) := hzx
        clear hzx
        go_wp2
        go_ret2
        unfold SRes
        exact ⟨_, HO.out.2.alloc HO.out.2.size _, Or.inr ⟨fun h => HZ.out h.2, rfl, World.ownsRow_lit _ #[] 0 HO.out.2.size (by decide) rfl⟩⟩
end Go.Proofs.YtkjfpgdnhdnceahDoor
