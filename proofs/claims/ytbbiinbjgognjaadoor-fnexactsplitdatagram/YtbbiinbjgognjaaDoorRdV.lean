import Derived.Test.YtbbiinbjgognjaaDoorRdQ
import Derived.Deep.LoopGhost
namespace Go.Proofs.YtbbiinbjgognjaaDoor
open Go.RowKit
set_option linter.unusedVariables false

theorem infoI64v : (Tryd.prog.info? 3).map (fun i => (i.zero, i.size, i.bytes)) = some (some (.int .i64 0), 1, 8) := by kernel_rfl
theorem grown_chg {w w' : World} {b : Option Nat} (h : w.grownBy w' b) : Chg (fun q => b = some q) w w' := by
  obtain ⟨h1, h2, h3, h4, h5⟩ := h
  exact ⟨h1, h2, h3, h4, fun k hk hn => h5 k hk (fun e => hn e.symm)⟩
theorem num_succ (k : Nat) (h : k ≤ 65536) : Value.int IntKind.i64 (wrap64 ((k : Int) + 1)) = Value.int IntKind.i64 ((k + 1 : Nat) : Int) := by congr 1; unfold wrap64; omega
/-- The versions of a list, four bytes each. -/
def versL (xs : List Int) (p k : Nat) : List Int := (List.range k).map fun i => vals (sub xs (p + 4 * i) 4)
theorem versL_succ (xs : List Int) (p k : Nat) : versL xs p (k + 1) = versL xs p k ++ [vals (sub xs (p + 4 * k) 4)] := by simp [versL, List.range_succ]
theorem versL_length (xs : List Int) (p k : Nat) : (versL xs p k).length = k := by simp [versL]
theorem versL_all (xs : List Int) (p m : Nat) : (versL xs p m).all (fun x => decide (x ≠ 0)) = true ↔ ∀ j, j < m → vals (sub xs (p + 4 * j) 4) ≠ 0 := by
  simp [versL]
def pkVer (xs : List Int) (p : Nat) : Except Int (List Int) :=
  if (xs.length - p) % 4 ≠ 0 ∨ (xs.length - p) / 4 < 1 ∨ 8 < (xs.length - p) / 4 then .error 3
  else if (versL xs p ((xs.length - p) / 4)).all (fun x => decide (x ≠ 0)) = true then .ok (versL xs p ((xs.length - p) / 4)) else .error 3
set_option maxRecDepth 20000 in
set_option maxHeartbeats 4000000 in
theorem versRC (g pb b off n cap p : Nat) (xs : List Int) (f v : Int) (vd vs vt : Value) (na fin : Int) (w : World) (h : rdB w g (.slice (some ⟨b, off, none⟩) n cap) p) (hk : pkB w pb f v vd vs vt (.slice none 0 0) na fin)
    (hl : Lies w b off n cap xs) (hB : Bytes xs) (hgb : b ≠ g) (hgp : pb ≠ g) (hbp : b ≠ pb) (hn : n ≤ 65536) (hp : p ≤ n) :
    Calls Tryd.prog 60 #[.pointer (some ⟨pb, 0, none⟩), .pointer (some ⟨g, 0, none⟩)] w fun e w' => Chg (SG g pb) w w' ∧ ((∃ c, pkVer xs p = .error c ∧ e = .panicked [leftP c]) ∨
      ∃ L vv', pkVer xs p = .ok L ∧ e = .returned (.tuple #[]) ∧ pkB w' pb 5 v vd vs vt vv' na n ∧ w'.ownsRow w.heap.size 3 1 vv' L.length (L.map (Value.int .i64)) ∧ L.length ≤ 8) := by
  have hlen := hl.len
  have hr := restC g (some ⟨b, off, none⟩) n cap p w h ⟨by omega, by omega⟩ (by omega)
  have hr2 := restC g (some ⟨b, off, none⟩) n cap p w.drew h.drew ⟨by omega, by omega⟩ (by omega)
  obtain ⟨R, hR⟩ : ∃ R : Nat, n = p + R := ⟨n - p, by omega⟩
  obtain ⟨m, hm⟩ : ∃ m : Nat, R / 4 = m := ⟨_, rfl⟩
  obtain ⟨j, hj⟩ : ∃ j : Nat, R % 4 = j := ⟨_, rfl⟩
  have hRi : (n : Int) - p = (R : Int) := by omega
  rw [hRi] at hr hr2
  have hq : (R : Int).tdiv 4 = (m : Int) := by rw [Int.tdiv_eq_ediv_of_nonneg (by omega)]; omega
  have hqw : IntKind.i64.wrap (m : Int) = (m : Int) := by rw [IntKind.wrap_i64]; omega
  have hjm : (R : Int).tmod 4 = (j : Int) := by rw [Int.tmod_eq_emod_of_nonneg (by omega)]; omega
  have hjw : IntKind.i64.wrap (j : Int) = (j : Int) := by rw [IntKind.wrap_i64]; omega
  have ex : pkVer xs p = if j ≠ 0 ∨ m < 1 ∨ 8 < m then .error 3 else if (versL xs p m).all (fun x => decide (x ≠ 0)) = true then .ok (versL xs p m) else .error 3 := by
    unfold pkVer
    rw [show xs.length - p = R by omega, hm, hj]
  by_cases hbad : j ≠ 0 ∨ m < 1 ∨ 8 < m
  · have e : pkVer xs p = .error 3 := by rw [ex, if_pos hbad]
    have HE : Hid _ := And.intro e True.intro
    clear ex e h hl hB hk hR hlen hm hj hRi
    by_cases a1 : j = 0
    · have b1 : ((j : Int) != 0) = false := by simp [a1]
      by_cases a2 : m < 1
      · have b2 : decide ((m : Int) < 1) = true := decide_eq_true (by omega)
        clear hbad a1 a2
        go_enter Tryd.func60, Tryd.ntmps60
        go_wp2_with fail
        go_at_call 58
        refine hr.mono ?_
        rintro e w1 ⟨rfl, hw1⟩
        rw [hw1]; clear hw1 w1
        go_wp2_with fail
        go_at_call 58
        refine hr2.mono ?_
        rintro e w1 ⟨rfl, hw1⟩
        rw [hw1]; clear hw1 w1
        go_wp2_with fail
        go_at_call 43
        refine (leaveIf_t _ 3 _).mono ?_
        rintro e w2 ⟨rfl, hw2⟩
        rw [hw2]; clear hw2 w2
        go_wp2_with fail
        exact ⟨rfl, (Chg.refl _ w).drew.drew, Or.inl ⟨3, HE.out.1, rfl⟩⟩
      · have b2 : decide ((m : Int) < 1) = false := decide_eq_false (by omega)
        have b3 : decide ((8 : Int) < (m : Int)) = true := decide_eq_true (by omega)
        clear hbad a1 a2
        go_enter Tryd.func60, Tryd.ntmps60
        go_wp2_with fail
        go_at_call 58
        refine hr.mono ?_
        rintro e w1 ⟨rfl, hw1⟩
        rw [hw1]; clear hw1 w1
        go_wp2_with fail
        go_at_call 58
        refine hr2.mono ?_
        rintro e w1 ⟨rfl, hw1⟩
        rw [hw1]; clear hw1 w1
        go_wp2_with fail
        go_at_call 43
        refine (leaveIf_t _ 3 _).mono ?_
        rintro e w2 ⟨rfl, hw2⟩
        rw [hw2]; clear hw2 w2
        go_wp2_with fail
        exact ⟨rfl, (Chg.refl _ w).drew.drew, Or.inl ⟨3, HE.out.1, rfl⟩⟩
    · have b1 : ((j : Int) != 0) = true := by simp [a1]
      clear hbad a1
      go_enter Tryd.func60, Tryd.ntmps60
      go_wp2_with fail
      go_at_call 58
      refine hr.mono ?_
      rintro e w1 ⟨rfl, hw1⟩
      rw [hw1]; clear hw1 w1
      go_wp2_with fail
      go_at_call 58
      refine hr2.mono ?_
      rintro e w1 ⟨rfl, hw1⟩
      rw [hw1]; clear hw1 w1
      go_wp2_with fail
      go_at_call 43
      refine (leaveIf_t _ 3 _).mono ?_
      rintro e w2 ⟨rfl, hw2⟩
      rw [hw2]; clear hw2 w2
      go_wp2_with fail
      exact ⟨rfl, (Chg.refl _ w).drew.drew, Or.inl ⟨3, HE.out.1, rfl⟩⟩
  rw [if_neg hbad] at ex
  have hj0 : j = 0 := by omega
  have hRm : R = 4 * m := by omega
  have b1 : ((j : Int) != 0) = false := by simp [hj0]
  have b2 : decide ((m : Int) < 1) = false := decide_eq_false (by omega)
  have b3 : decide ((8 : Int) < (m : Int)) = false := decide_eq_false (by omega)
  have hm8 : m ≤ 8 := by omega
  obtain ⟨i0, hi, hz0, hz1, hz2⟩ := info_parts infoI64v
  have x0 : w.drew.drew.cell? ⟨pb, 0, none⟩ = _ := hk.c_f
  have y0 : w.drew.drew.frozen? ⟨pb, 0, none⟩ = false := hk.fr 0
  have k0 : pkB (w.setCell ⟨pb, 0, none⟩ (.int .i64 5)).drew.drew pb 5 v vd vs vt (.slice none 0 0) na fin := hk.set_f 5
  have r0 : rdB (w.setCell ⟨pb, 0, none⟩ (.int .i64 5)).drew.drew g (.slice (some ⟨b, off, none⟩) n cap) p := h.other hgp
  have C0 : Chg (SG g pb) w (w.setCell ⟨pb, 0, none⟩ (.int .i64 5)).drew.drew := ((Chg.refl (SG g pb) w).setP 0 (.int .i64 5)).drew.drew
  have hS : ∀ q, SG g pb q → ¬ q = b := fun q hq e => by rcases hq with h | h; exact hgb (by omega); exact hbp (by omega)
  have HW : Hid _ := And.intro ex (And.intro hl (And.intro hB (And.intro hgb (And.intro hgp (And.intro hbp (And.intro hn (And.intro hR (And.intro hRm (And.intro hm8 (And.intro (And.intro hk.lt h.lt) (And.intro k0 (And.intro r0 (And.intro C0 hS)))))))))))))
  clear ex hl hB hk h hlen hm hj hRi hbad hj0 k0 r0 C0 hS hp hm8 hRm hR
  go_enter Tryd.func60, Tryd.ntmps60
  go_wp2_with fail
  go_at_call 58
  refine hr.mono ?_
  rintro e w1 ⟨rfl, hw1⟩
  rw [hw1]; clear hw1 w1
  go_wp2_with fail
  go_at_call 58
  refine hr2.mono ?_
  rintro e w1 ⟨rfl, hw1⟩
  rw [hw1]; clear hw1 w1
  go_wp2_with fail
  go_at_call 43
  refine (leaveIf_f _ 3 _).mono ?_
  rintro e w2 ⟨rfl, hw2⟩
  rw [hw2]; clear hw2 w2
  clear hr hr2 b1 b2 b3 hq hjm hqw hjw
  go_wp2_with fail
  clear x0 y0
  go_loopg [28] m (fun q i wr => ∃ k : Nat, k ≤ m ∧ q = m - k ∧ i = .int .i64 (k : Int) ∧ ∃ vv, rdB wr g (.slice (some ⟨b, off, none⟩) n cap) ((p + 4 * k : Nat) : Int) ∧ pkB wr pb 5 v vd vs vt vv na fin ∧ wr.ownsRow w.heap.size 3 1 vv k ((versL xs p k).map (Value.int .i64)) ∧ Chg (SG g pb) w wr ∧ ∀ j, j < k → vals (sub xs (p + 4 * j) 4) ≠ 0)
  case atStart => exact ⟨0, by omega, by omega, rfl, _, HW.out.2.2.2.2.2.2.2.2.2.2.2.2.1, HW.out.2.2.2.2.2.2.2.2.2.2.2.1, World.ownsRow_nil _ _ _ _, HW.out.2.2.2.2.2.2.2.2.2.2.2.2.2.1, fun j hj => by omega⟩
  case round =>
    obtain ⟨k, hk, hq, rfl, vv, hrd, hpk, hown, hch, hnz⟩ := hrel
    by_cases hlt : k < m
    · have hli := HW.out.2.1.chg hch (fun hh => HW.out.2.2.2.2.2.2.2.2.2.2.2.2.2.2 b hh rfl)
      have hnum := number_ok g b off n cap (p + 4 * k) 4 xs wr hrd hli HW.out.2.2.1 HW.out.2.2.2.1 HW.out.2.2.2.2.2.2.1 (by have h1 := HW.out.2.2.2.2.2.2.2.1; have h2 := HW.out.2.2.2.2.2.2.2.2.1; omega) (by decide) (by decide)
      obtain ⟨x, ex⟩ : ∃ x, x = vals (sub xs (p + 4 * k) 4) := ⟨_, rfl⟩
      rw [← ex] at hnum
      have hlt' : decide ((k : Int) < (m : Int)) = true := decide_eq_true (by omega)
      have HN : Hid _ := And.intro hlt (And.intro hk hq)
      have HI : Hid _ := And.intro ex (And.intro hrd (And.intro hpk (And.intro hown (And.intro hch hnz))))
      clear ex hrd hpk hown hch hnz hli
      by_cases hx : x = 0
      · have hx' : (x == 0) = true := by simp [hx]
        go_wp2_with fail
        go_at_call 45
        refine hnum.mono ?_
        rintro e w1 ⟨rfl, r1, c1⟩
        go_wp2_with fail
        go_at_call 43
        refine (leaveIf_t _ 3 _).mono ?_
        rintro e w2 ⟨rfl, hw2⟩
        rw [hw2]; clear hw2 w2
        go_wp2_with fail
        refine ⟨rfl, HI.out.2.2.2.2.1.trans c1.toG, Or.inl ⟨3, ?_, rfl⟩⟩
        rw [HW.out.1, if_neg]
        rw [versL_all]
        intro hall
        exact hall k HN.out.1 (by rw [← HI.out.1]; exact hx)
      · have hx' : (x == 0) = false := by simp [hx]
        go_wp2_with fail
        go_at_call 45
        refine hnum.mono ?_
        rintro e w1 ⟨rfl, r1, c1⟩
        have k1 := HI.out.2.2.1.chg c1 HW.out.2.2.2.2.1
        have x1 := k1.c_vv
        have y1 := k1.fr 8
        have hne : ∀ q, vv.ownBlock = some q → ¬ q = g := fun q hq e => by have h1 := (HI.out.2.2.2.1.lt q hq).1; have h2 := HW.out.2.2.2.2.2.2.2.2.2.2.1.2; omega
        have o1 := c1.owns HI.out.2.2.2.1 hne
        have h1s : w.heap.size ≤ w1.heap.size := Nat.le_trans HI.out.2.2.2.2.1.size c1.size
        have HJ : Hid _ := And.intro r1 (And.intro c1 (And.intro k1 h1s))
        clear r1 c1 k1 hne h1s
        go_wp2_with (first
          | (go_at_call 43; refine (leaveIf_f _ 3 _).mono ?_; rintro e w2 ⟨rfl, hw2⟩; rw [hw2]; clear hw2 w2)
          | (at_builtin; refine wpList_append_own _ rfl _ _ 39 rfl w.heap.size 3 i0 (.int .i64 0) 1 8 Tryd.underlying39 hi hz0 hz1 hz2 rfl (by decide) _ _ _ rfl (o1.alloc _) ⟨w1.heap.size, 0, none⟩ 1 1 [.int .i64 x] rfl rfl ?c1 ?c2 ?c3 ?c4 ?c5 ?_))
        case c1 =>
          intro j u hj
          match j, hj with
          | 0, hj => simp at hj; subst hj; simp [Addr.add]
        case c2 => intro u hu; simp at hu; subst hu; rfl
        case c3 => unfold maxLen; have := HN.out.1; have := HW.out.2.2.2.2.2.2.2.2.2.1; omega
        case c4 => have := HN.out.1; have := HW.out.2.2.2.2.2.2.2.2.2.1; omega
        case c5 => have := HJ.out.2.2.2; simp; omega
        intro v' w2 hown2 hgrow _
        have c2 : Chg (fun q => vv.ownBlock = some q) w1 w2 := (Chg.of_below ((Below.refl _ _).alloc (Nat.le_refl _) _)).trans (grown_chg hgrow)
        have hnp : ∀ q, q < w.heap.size → ¬ vv.ownBlock = some q := fun q hq e => by have h1 := (HI.out.2.2.2.1.lt q e).1; omega
        have r2 := HJ.out.1.chg c2 (hnp g HW.out.2.2.2.2.2.2.2.2.2.2.1.2)
        have k2 := HJ.out.2.2.1.chg c2 (hnp pb HW.out.2.2.2.2.2.2.2.2.2.2.1.1)
        have x2 := k2.c_vv
        have y2 := k2.fr 8
        have k3 := k2.set_vv v'
        have r3 := r2.other (i := 8) (u := v') HW.out.2.2.2.2.1
        have hn2 : ∀ q, v'.ownBlock = some q → some q ≠ some pb := fun q hq e => by have h1 := (hown2.lt q hq).1; have h2 := HW.out.2.2.2.2.2.2.2.2.2.2.1.1; have := Option.some.inj e; omega
        have o3 := (Only.setCell (w := w2) ⟨pb, 8, none⟩ v').owns hown2 hn2
        have c3 : Chg (SG g pb) w (w2.setCell ⟨pb, 8, none⟩ v') := by
          refine Chg.setP ?_ 8 v'
          have cA := HI.out.2.2.2.2.1.trans HJ.out.2.1.toG
          exact ⟨c2.os.trans cA.os, c2.tape.trans cA.tape, c2.output.trans cA.output, Nat.le_trans cA.size c2.size, fun q hq hs => (c2.block q (Nat.lt_of_lt_of_le hq cA.size) (hnp q hq)).trans (cA.block q hq hs)⟩
        rw [HI.out.1, ← List.map_singleton, ← List.map_append, ← versL_succ] at o3
        obtain ⟨va, vp, ev⟩ := (row_of_owns (k := .i64) o3).form
        have HR : Hid _ := And.intro r3 (And.intro k3 (And.intro o3 c3))
        clear c2 r2 k2 k3 r3 hn2 o3 c3 hown2 hgrow o1 hnp
        subst ev
        go_wp2_with fail
        go_roundg (m - (k + 1))
        case measure => have := HN.out; omega
        case rel =>
          refine ⟨k + 1, Nat.succ_le_of_lt HN.out.1, rfl, num_succ k (by have h1 := HN.out.1; have h2 := HW.out.2.2.2.2.2.2.2.2.2.1; omega), _, HR.out.1, HR.out.2.1, HR.out.2.2.1, HR.out.2.2.2, fun j hj => ?_⟩
          by_cases hjk : j = k
          · subst hjk; rw [← HI.out.1]; exact hx
          · exact HI.out.2.2.2.2.2 j (by omega)
    · obtain rfl : k = m := by omega
      have hlt' : decide ((k : Int) < (k : Int)) = false := decide_eq_false (by omega)
      have x1 := hrd.c1
      have x2 := hpk.c_fin
      have y2 := hpk.fr 10
      have k3 := hpk.set_fin ((p + 4 * k : Nat) : Int)
      have hne : ∀ q, vv.ownBlock = some q → some q ≠ some pb := fun q hq e => by have h1 := (hown.lt q hq).1; have h2 := HW.out.2.2.2.2.2.2.2.2.2.2.1.1; have := Option.some.inj e; omega
      have o3 := (Only.setCell (w := wr) ⟨pb, 10, none⟩ (.int .i64 ((p + 4 * k : Nat) : Int))).owns hown hne
      have c3 := hch.setP 10 (.int .i64 ((p + 4 * k : Nat) : Int))
      have hpn : p + 4 * k = n := by have h1 := HW.out.2.2.2.2.2.2.2.1; have h2 := HW.out.2.2.2.2.2.2.2.2.1; omega
      rw [hpn] at x1 k3 o3 c3
      have HI : Hid _ := And.intro hnz (And.intro k3 (And.intro o3 c3))
      clear hrd hpk hown hch hnz k3 o3 c3 hne hpn
      go_wp2_with fail
      go_end0
      refine ⟨HI.out.2.2.2, Or.inr ⟨versL xs p k, vv, ?_, rfl, HI.out.2.1, ?_, ?_⟩⟩
      · rw [HW.out.1, if_pos ((versL_all xs p k).2 HI.out.1)]
      · rw [versL_length]; exact HI.out.2.2.1
      · rw [versL_length]; exact HW.out.2.2.2.2.2.2.2.2.2.1
end Go.Proofs.YtbbiinbjgognjaaDoor
