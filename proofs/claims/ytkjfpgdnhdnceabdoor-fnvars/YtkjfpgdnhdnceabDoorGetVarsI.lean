import Derived.Test.YtkjfpgdnhdnceabDoorGetShort
namespace Go.Proofs.YtkjfpgdnhdnceabDoor
open Go.RowKit
set_option linter.unusedVariables false

theorem infoI64 : (Tryd.prog.info? 3).map (fun i => (i.zero, i.size, i.bytes)) = some (some (.int .i64 0), 1, 8) := by kernel_rfl

theorem implGVs_long (ao : Option Addr) (n cap : Nat) (w : World) (h : 65536 < n) (hm : n ≤ 9223372036854775807) :
    Calls Tryd.prog 8 #[.slice ao n cap] w fun e w' => e = .returned (.tuple #[.slice none 0 0, .int .i64 4]) ∧ w' = w := by
  go_enter Tryd.func8, Tryd.ntmps8
  go_wp2
  go_ret2
  exact ⟨rfl, rfl⟩

theorem implGVs_head (ao : Option Addr) (n cap : Nat) (x y : Int) (b : Bool) (w : World) (h : n ≤ 65536) (hx : 0 ≤ x ∧ x ≤ 4611686018427387903)
    (hG : Calls Tryd.prog 20 #[.slice ao n cap, .int .i64 0] w fun e w' => e = .returned (.tuple #[.int .i64 x, .int .i64 y, .bool b]) ∧ w' = w) (hb : b = false ∨ 4096 < x) :
    Calls Tryd.prog 8 #[.slice ao n cap] w fun e w' => e = .returned (.tuple #[.slice none 0 0, .int .i64 3]) ∧ w' = w := by
  cases b with
  | false =>
    clear hb
    go_enter Tryd.func8, Tryd.ntmps8
    go_wp2_with (go_at_call 20; refine hG.mono ?_; rintro e w' ⟨rfl, rfl⟩)
    go_ret2
    exact ⟨rfl, rfl⟩
  | true =>
    have hx' : 4096 < x := by simpa using hb
    clear hb
    go_enter Tryd.func8, Tryd.ntmps8
    go_wp2_with (go_at_call 20; refine hG.mono ?_; rintro e w' ⟨rfl, rfl⟩)
    go_ret2
    exact ⟨rfl, rfl⟩

def GRes (n c q : Nat) (P N : Nat → Int) (w w' : World) (e : Ending) : Prop := ∃ r, Below w.heap.size w w' ∧
      ((q = c ∧ P c = (n : Int) ∧ e = .returned (.tuple #[r, .int .i64 0]) ∧ ∃ zs : List Int, zs.length = c ∧ (∀ j, j < c → zs.getD j 0 = N j) ∧ w'.ownsRow w.heap.size 3 1 r c (zs.map (Value.int .i64))) ∨
       (¬ (q = c ∧ P c = (n : Int)) ∧ e = .returned (.tuple #[.slice none 0 0, .int .i64 3])))

set_option maxHeartbeats 1000000 in
/-- What the loop of the program does: q: the first number that is not in its shortest form, or the count. -/
theorem implGVs_loop (ao : Option Addr) (n cap c q : Nat) (P N : Nat → Int) (B : Nat → Bool) (w : World) (h : n ≤ 65536) (hc : c ≤ 4096) (hq : q ≤ c) (hP : ∀ k, 0 ≤ P k ∧ P k ≤ 65536)
    (h0 : Calls Tryd.prog 20 #[.slice ao n cap, .int .i64 0] w fun e w' => e = .returned (.tuple #[.int .i64 (c : Int), .int .i64 (P 0), .bool true]) ∧ w' = w)
    (hG : ∀ (k : Nat) (wr : World), Below w.heap.size w wr → Calls Tryd.prog 20 #[.slice ao n cap, .int .i64 (P k)] wr fun e w' => e = .returned (.tuple #[.int .i64 (N k), .int .i64 (P (k + 1)), .bool (B k)]) ∧ w' = wr)
    (hB : ∀ k, k < q → B k = true) (hend : q < c → B q = false) :
    Calls Tryd.prog 8 #[.slice ao n cap] w fun e w' => GRes n c q P N w w' e := by
  obtain ⟨i0, hi, hz0, hz1, hz2⟩ := info_parts infoI64
  have HG : Hid (∀ (k : Nat) (wr : World), Below w.heap.size w wr → Calls Tryd.prog 20 #[.slice ao n cap, .int .i64 (P k)] wr fun e w' => e = .returned (.tuple #[.int .i64 (N k), .int .i64 (P (k + 1)), .bool (B k)]) ∧ w' = wr) := hG
  have HB : Hid ((∀ k, k < q → B k = true) ∧ (q < c → B q = false)) := ⟨hB, hend⟩
  have HP : Hid (∀ k, 0 ≤ P k ∧ P k ≤ 65536) := hP
  clear hG hB hend hP
  go_enter Tryd.func8, Tryd.ntmps8
  go_wp2_with (first
    | (go_at_call 20; refine h0.mono ?_; rintro e w' ⟨rfl, hw⟩; rw [hw]; clear hw w')
    | (at_make; refine wpList_make_full _ rfl _ _ 23 rfl w.heap.size 3 i0 (.int .i64 0) 1 Tryd.underlying23 hi hz0 hz1 .i64 .i64 (c : Int) (c : Int) c rfl rfl rfl rfl (by rw [hz2]; omega) (by unfold maxLen; omega) (Nat.le_refl _) ?_; intro w1 hown hg))
  clear h0
  go_loopw [5, 27] (fun s i wr => ∃ k : Nat, k ≤ q ∧ i = .int .i64 k ∧ s = .int .i64 (P k) ∧ ∃ zs : List Int, zs.length = c ∧ (∀ j, j < k → zs.getD j 0 = N j) ∧
      wr.ownsRow w.heap.size 3 1 (.slice (some ⟨w.heap.size, 0, none⟩) c c) c (zs.map (Value.int .i64)) ∧ Below w.heap.size w wr) (fun _ i _ => c - (intOf i).toNat)
  case atStart =>
    exact ⟨0, Nat.zero_le _, rfl, rfl, List.replicate c 0, by simp, fun j h => by omega, made_zero hown, (Below.refl _ _).grown hg (Nat.le_refl _) (by intro k hk; cases hk)⟩
  case round =>
    obtain ⟨k, hk, rfl, rfl, zs, hl, hm, hown', hb⟩ := hrel
    clear hown hg
    by_cases hlt : k < c
    · have G := HG.out k wr hb
      have R := fill_step (x := N k) (f := N) rfl hl hlt hm hown' hb (Nat.le_refl _)
      have f1 := hown'.frozenAt k
      have c1 := owns_cell hown' hl hlt
      generalize zs.getD k 0 = u at c1
      by_cases hkq : k < q
      · have hB := HB.out.1 k hkq
        rw [hB] at G
        clear hl hm hown' hb hB
        obtain ⟨ys, R⟩ := R
        have HR : Hid _ := R
        clear R
        go_wp2_with (go_at_call 20; refine G.mono ?_; rintro e w' ⟨rfl, hw⟩; rw [hw]; clear hw w')
        go_roundw
        case rel =>
          obtain ⟨r1, r2, r3, r4⟩ := HR.out
          exact ⟨k + 1, by omega, by go_num, rfl, ys, r1, r2, r3, r4⟩
        case measure => simp [intOf]; omega
      · obtain rfl : k = q := by omega
        have hB := HB.out.2 hlt
        rw [hB] at G
        clear hl hm hown' hb hB
        obtain ⟨ys, R⟩ := R
        have HR : Hid _ := R
        clear R
        go_wp2_with (go_at_call 20; refine G.mono ?_; rintro e w' ⟨rfl, hw⟩; rw [hw]; clear hw w')
        go_ret2
        unfold GRes
        exact ⟨.slice none 0 0, HR.out.2.2.2, Or.inr ⟨fun h => by omega, rfl⟩⟩
    · obtain rfl : k = c := by omega
      obtain rfl : k = q := by omega
      have hp := HP.out k
      obtain ⟨p, ep⟩ : ∃ p, p = P k := ⟨_, rfl⟩
      have EP : Hid (p = P k) := ep
      rw [← ep] at hp ⊢
      clear ep
      have HR : Hid _ := And.intro hl (And.intro hm (And.intro hown' hb))
      clear hl hm hown' hb
      by_cases hpn : p = (n : Int)
      · have HPN : Hid (p = (n : Int)) := hpn
        have htt : (p != (n : Int)) = false := by simp [hpn]
        clear hpn
        go_wp2
        go_ret2
        obtain ⟨r1, r2, r3, r4⟩ := HR.out
        unfold GRes
        exact ⟨_, r4, Or.inl ⟨rfl, by rw [← EP.out]; exact HPN.out, rfl, zs, r1, r2, r3⟩⟩
      · have HPN : Hid (¬ p = (n : Int)) := hpn
        have htt : (p != (n : Int)) = true := by simp [hpn]
        clear hpn
        go_wp2
        go_ret2
        obtain ⟨r1, r2, r3, r4⟩ := HR.out
        unfold GRes
        exact ⟨.slice none 0 0, r4, Or.inr ⟨fun h => HPN.out (by rw [EP.out]; exact h.2), rfl⟩⟩
end Go.Proofs.YtkjfpgdnhdnceabDoor
