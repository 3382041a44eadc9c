import Derived.Test.YtbbiinbjgognjaaDoorSrF
namespace Go.Proofs.YtbbiinbjgognjaaDoor
open Go.RowKit
set_option linter.unusedVariables false

/-- The versions that the model reads: none where there is a fault. -/
def versOut (xs : List Int) (p : Nat) : List Int := match pkVer xs p with | .ok L => L | .error _ => []
theorem ownsRow_empty (w : World) (base : Nat) (hb : base ≤ w.heap.size) (t : TypeId) : (w.alloc (.cells #[] t)).ownsRow base t 1 (.slice (some ⟨w.heap.size, 0, none⟩) 0 0) 0 (([] : List Int).map (Value.int .i64)) :=
  World.ownsRow_lit w #[] 0 (base := base) (e := t) (size := 1) hb (by decide) rfl
set_option maxRecDepth 20000 in
set_option maxHeartbeats 4000000 in
theorem versS (g b off n cap p : Nat) (xs : List Int) (w : World) (h : srB w g (.slice (some ⟨b, off, none⟩) n cap) p false) (hl : Lies w b off n cap xs) (hB : Bytes xs) (hgb : b ≠ g) (hn : n ≤ 65536) (hp : p ≤ n) :
    Calls Tryd.prog 35 #[.pointer (some ⟨g, 0, none⟩)] w fun e w' => Chg (· = g) w w' ∧ (∃ pp, srB w' g (.slice (some ⟨b, off, none⟩) n cap) pp false) ∧ ∃ v, e = .returned v ∧ w'.ownsRow w.heap.size 3 1 v (versOut xs p).length ((versOut xs p).map (Value.int .i64)) := by
  have hlen := hl.len
  obtain ⟨R, hR⟩ : ∃ R : Nat, n = p + R := ⟨n - p, by omega⟩
  obtain ⟨m, hm⟩ : ∃ m : Nat, R / 4 = m := ⟨_, rfl⟩
  obtain ⟨j, hj⟩ : ∃ j : Nat, R % 4 = j := ⟨_, rfl⟩
  have hRi : IntKind.i64.wrap ((n : Int) - p) = (R : Int) := by rw [IntKind.wrap_i64]; omega
  have hjm : (R : Int).tmod 4 = (j : Int) := by rw [Int.tmod_eq_emod_of_nonneg (by omega)]; omega
  have hjw : IntKind.i64.wrap (j : Int) = (j : Int) := by rw [IntKind.wrap_i64]; omega
  have ex : pkVer xs p = if j ≠ 0 ∨ m < 1 ∨ 8 < m then .error 3 else if (versL xs p m).all (fun x => decide (x ≠ 0)) = true then .ok (versL xs p m) else .error 3 := by
    unfold pkVer
    rw [show xs.length - p = R by omega, hm, hj]
  have hE := ownsRow_empty w w.heap.size (Nat.le_refl _) 3
  have C0 : Chg (· = g) w (w.alloc (.cells #[] 3)).drew := ((Chg.refl _ w).alloc _).drew
  have hS0 : srB (w.alloc (.cells #[] 3)).drew g (.slice (some ⟨b, off, none⟩) n cap) p false := h.chg ((Chg.refl (fun _ => False) w).alloc _).drew (fun hh => hh)
  have c0 := hS0.c0
  have c1 := hS0.c1
  by_cases hbad : j ≠ 0 ∨ m < 1 ∨ 8 < m
  · have e : versOut xs p = [] := by unfold versOut; rw [ex, if_pos hbad]
    rw [e]
    have HH : Hid _ := And.intro C0 (And.intro hE hS0)
    clear ex e h hl hB hlen C0 hE hS0 hR hp hn
    by_cases a1 : j = 0
    · have b1 : ((j : Int) != 0) = false := by simp [a1]
      by_cases a2 : R < 4
      · have b2 : decide ((R : Int) < 4) = true := decide_eq_true (by omega)
        clear hbad a1 a2 hm hj
        go_enter Tryd.func35, Tryd.ntmps35
        go_wp2_with fail
        go_region
        go_wp2_with fail
        go_ret
        exact ⟨HH.out.1, ⟨_, HH.out.2.2⟩, _, rfl, HH.out.2.1⟩
      · have b2 : decide ((R : Int) < 4) = false := decide_eq_false (by omega)
        have b3 : decide ((32 : Int) < (R : Int)) = true := decide_eq_true (by omega)
        clear hbad a1 a2 hm hj
        go_enter Tryd.func35, Tryd.ntmps35
        go_wp2_with fail
        go_region
        go_wp2_with fail
        go_ret
        exact ⟨HH.out.1, ⟨_, HH.out.2.2⟩, _, rfl, HH.out.2.1⟩
    · have b1 : ((j : Int) != 0) = true := by simp [a1]
      clear hbad a1 hm hj
      go_enter Tryd.func35, Tryd.ntmps35
      go_wp2_with fail
      go_region
      go_wp2_with fail
      go_ret
      exact ⟨HH.out.1, ⟨_, HH.out.2.2⟩, _, rfl, HH.out.2.1⟩
  rw [if_neg hbad] at ex
  have hj0 : j = 0 := by omega
  have hRm : R = 4 * m := by omega
  have b1 : ((j : Int) != 0) = false := by simp [hj0]
  have b2 : decide ((R : Int) < 4) = false := decide_eq_false (by omega)
  have b3 : decide ((32 : Int) < (R : Int)) = false := decide_eq_false (by omega)
  have hm8 : m ≤ 8 := by omega
  obtain ⟨i0, hi, hz0, hz1, hz2⟩ := info_parts infoI64v
  have HW : Hid _ := And.intro ex (And.intro hl (And.intro hB (And.intro hgb (And.intro hn (And.intro hR (And.intro hRm (And.intro hm8 (And.intro C0 (And.intro hE (And.intro hS0 h.lt))))))))))
  clear ex hl hB h hlen hm hj hbad hj0 C0 hE hS0 hp hm8 hRm hR
  go_enter Tryd.func35, Tryd.ntmps35
  go_wp2_with fail
  go_region
  go_wp2_with fail
  clear hjm hjw b1 b2 b3 c0 c1 hRi
  go_loopg [3] m (fun q vv wr => ∃ k : Nat, k ≤ m ∧ q = m - k ∧ srB wr g (.slice (some ⟨b, off, none⟩) n cap) ((p + 4 * k : Nat) : Int) false ∧ wr.ownsRow w.heap.size 3 1 vv k ((versL xs p k).map (Value.int .i64)) ∧ Chg (· = g) w wr ∧ ∀ j, j < k → vals (sub xs (p + 4 * j) 4) ≠ 0)
  case atStart => exact ⟨0, by omega, by omega, HW.out.2.2.2.2.2.2.2.2.2.2.1, HW.out.2.2.2.2.2.2.2.2.2.1, HW.out.2.2.2.2.2.2.2.2.1, fun j hj => by omega⟩
  case round =>
    obtain ⟨k, hk, hq, hrd, hown, hch, hnz⟩ := hrel
    have c0 : wr.drew.cell? ⟨g, 0, none⟩ = _ := hrd.c0
    have c1 : wr.drew.cell? ⟨g, 1, none⟩ = _ := hrd.c1
    by_cases hlt : k < m
    · have hli := (HW.out.2.1.chg hch HW.out.2.2.2.1).drew
      have hfx := fixedS_ok g b off n cap (p + 4 * k) 4 xs wr.drew hrd hli HW.out.2.2.1 HW.out.2.2.2.1 HW.out.2.2.2.2.1 (by have h1 := HW.out.2.2.2.2.2.1; have h2 := HW.out.2.2.2.2.2.2.1; omega) (by decide) (by decide)
      obtain ⟨x, ex⟩ : ∃ x, x = vals (sub xs (p + 4 * k) 4) := ⟨_, rfl⟩
      rw [← ex] at hfx
      have hlt' : p + 4 * k < n := by have h1 := HW.out.2.2.2.2.2.1; have h2 := HW.out.2.2.2.2.2.2.1; omega
      obtain ⟨pk', hpk'⟩ : ∃ z : Nat, z = p + 4 * k := ⟨_, rfl⟩
      have HN : Hid _ := And.intro hlt (And.intro hk hq)
      have HI : Hid _ := And.intro ex (And.intro hrd (And.intro hown (And.intro hch hnz)))
      rw [← hpk'] at c1 hlt'
      clear ex hrd hown hch hnz hli hpk'
      by_cases hx : x = 0
      · have hx' : (x == 0) = true := by simp [hx]
        go_wp2_with fail
        go_region
        go_wp2_with fail
        go_at_call 36
        refine hfx.mono ?_
        rintro e w1 ⟨rfl, r1, c1'⟩
        go_wp2_with fail
        go_ret
        have ev : versOut xs p = [] := by
          unfold versOut
          rw [HW.out.1, if_neg]
          rw [versL_all]
          intro hall
          exact hall k HN.out.1 (by rw [← HI.out.1]; exact hx)
        have cc := HI.out.2.2.2.1.trans (((Chg.refl _ wr).drew).trans c1')
        exact ⟨cc.alloc _, ⟨_, r1.chg ((Chg.refl (fun _ => False) w1).alloc _) (fun hh => hh)⟩, _, rfl, by rw [ev]; exact ownsRow_empty w1 w.heap.size cc.size 3⟩
      · have hx' : (x == 0) = false := by simp [hx]
        go_wp2_with fail
        go_region
        go_wp2_with fail
        go_at_call 36
        refine hfx.mono ?_
        rintro e w1 ⟨rfl, r1, c1'⟩
        have cw : Chg (· = g) wr w1 := ((Chg.refl _ wr).drew).trans c1'
        have hne : ∀ q, u3.ownBlock = some q → ¬ q = g := fun q hq e => by have h1 := (HI.out.2.2.1.lt q hq).1; have h2 := HW.out.2.2.2.2.2.2.2.2.2.2.2; omega
        have o1 := cw.owns HI.out.2.2.1 hne
        have h1s : w.heap.size ≤ w1.heap.size := Nat.le_trans HI.out.2.2.2.1.size cw.size
        have HJ : Hid _ := And.intro r1 (And.intro cw h1s)
        clear r1 c1' cw hne h1s
        go_wp2_with (at_builtin; refine wpList_append_own _ rfl _ _ 39 rfl w.heap.size 3 i0 (.int .i64 0) 1 8 Tryd.underlying39 hi hz0 hz1 hz2 rfl (by decide) _ _ _ rfl (o1.alloc _) ⟨w1.heap.size, 0, none⟩ 1 1 [.int .i64 x] rfl rfl ?c1 ?c2 ?c3 ?c4 ?c5 ?_)
        case c1 =>
          intro j u hj
          match j, hj with
          | 0, hj => simp at hj; subst hj; simp [Addr.add]
        case c2 => intro u hu; simp at hu; subst hu; rfl
        case c3 => unfold maxLen; have := HN.out.1; have := HW.out.2.2.2.2.2.2.2.1; omega
        case c4 => have := HN.out.1; have := HW.out.2.2.2.2.2.2.2.1; omega
        case c5 => have := HJ.out.2.2; simp; omega
        intro v' w2 hown2 hgrow _
        have c2 : Chg (fun q => u3.ownBlock = some q) w1 w2 := (Chg.of_below ((Below.refl _ _).alloc (Nat.le_refl _) _)).trans (grown_chg hgrow)
        have hnp : ∀ q, q < w.heap.size → ¬ u3.ownBlock = some q := fun q hq e => by have h1 := (HI.out.2.2.1.lt q e).1; omega
        have r2 := HJ.out.1.chg c2 (hnp g HW.out.2.2.2.2.2.2.2.2.2.2.2)
        have c3 : Chg (· = g) w w2 := by
          have cA := HI.out.2.2.2.1.trans HJ.out.2.1
          exact ⟨c2.os.trans cA.os, c2.tape.trans cA.tape, c2.output.trans cA.output, Nat.le_trans cA.size c2.size, fun q hq hs => (c2.block q (Nat.lt_of_lt_of_le hq cA.size) (hnp q hq)).trans (cA.block q hq hs)⟩
        rw [HI.out.1, ← List.map_singleton, ← List.map_append, ← versL_succ] at hown2
        have HR : Hid _ := And.intro r2 (And.intro hown2 c3)
        clear c2 r2 c3 hown2 hgrow o1 hnp
        go_wp2_with fail
        go_roundg (m - (k + 1))
        case measure => have := HN.out; omega
        case rel =>
          refine ⟨k + 1, Nat.succ_le_of_lt HN.out.1, rfl, HR.out.1, HR.out.2.1, HR.out.2.2, fun j hj => ?_⟩
          by_cases hjk : j = k
          · subst hjk; rw [← HI.out.1]; exact hx
          · exact HI.out.2.2.2.2 j (by omega)
    · obtain rfl : k = m := by omega
      have hge : ¬ p + 4 * k < n := by have h1 := HW.out.2.2.2.2.2.1; have h2 := HW.out.2.2.2.2.2.2.1; omega
      have ev : versOut xs p = versL xs p k := by
        unfold versOut
        rw [HW.out.1, if_pos ((versL_all xs p k).2 hnz)]
      obtain ⟨pk', hpk'⟩ : ∃ z : Nat, z = p + 4 * k := ⟨_, rfl⟩
      rw [← hpk'] at c1 hge
      have HI : Hid _ := And.intro hown (And.intro hch (And.intro (versL_length xs p k) (And.intro ev hrd)))
      clear hrd hown hch hnz ev hpk'
      go_wp2_with fail
      go_region
      go_wp2_with fail
      go_ret
      exact ⟨HI.out.2.1.drew, ⟨_, show srB wr.drew _ _ _ _ from HI.out.2.2.2.2⟩, _, rfl, by rw [HI.out.2.2.2.1, HI.out.2.2.1]; exact HI.out.1⟩
end Go.Proofs.YtbbiinbjgognjaaDoor
