import Derived.Test.YtbbiinbjgognjaaDoorRdP
namespace Go.Proofs.YtbbiinbjgognjaaDoor
open Go.RowKit
set_option linter.unusedVariables false

theorem Lies.drew {w : World} {b off n cap : Nat} {xs : List Int} (h : Lies w b off n cap xs) : Lies w.drew b off n cap xs := h.chg (Chg.refl (fun _ => False) w).drew (fun h => h)
theorem Lies.setP {w : World} {b off n cap pb i : Nat} {u : Value} {xs : List Int} (h : Lies w b off n cap xs) (hb : b ≠ pb) : Lies (w.setCell ⟨pb, i, none⟩ u) b off n cap xs := h.chg ((Chg.refl (· = pb) w).set pb i u rfl) hb
/-- What a retry holds behind its ids: the token. -/
def pkRet (xs : List Int) (p : Nat) : Except Int (List Int) :=
  if xs.length < p + 9 then .error 2 else if p + 72 < xs.length then .error 3 else .ok (sub xs p (xs.length - p - 8))
set_option maxRecDepth 20000 in
set_option maxHeartbeats 2000000 in
theorem retryRC (g pb b off n cap p : Nat) (xs : List Int) (f v : Int) (vd vs vt vv : Value) (na fin : Int) (w : World) (h : rdB w g (.slice (some ⟨b, off, none⟩) n cap) p) (hk : pkB w pb f v vd vs vt vv na fin)
    (hl : Lies w b off n cap xs) (hgb : b ≠ g) (hgp : pb ≠ g) (hn : n ≤ 65536) (hp : p ≤ n) :
    Calls Tryd.prog 62 #[.pointer (some ⟨pb, 0, none⟩), .pointer (some ⟨g, 0, none⟩)] w fun e w' => Chg (SG g pb) w w' ∧ ((∃ c, pkRet xs p = .error c ∧ e = .panicked [leftP c]) ∨
      ∃ t vt', pkRet xs p = .ok t ∧ e = .returned (.tuple #[]) ∧ pkB w' pb f v vd vs vt' vv na n ∧ w'.ownsRow w.heap.size 5 1 vt' t.length (t.map (Value.int .u8)) ∧ t.length ≤ 64) := by
  have hlen := hl.len
  have hr := restC g (some ⟨b, off, none⟩) n cap p w h ⟨by omega, by omega⟩ (by omega)
  have hw : IntKind.i64.wrap ((n : Int) - p - 8) = (n : Int) - p - 8 := by rw [IntKind.wrap_i64]; omega
  by_cases h1 : n < p + 9
  · have e : pkRet xs p = .error 2 := by unfold pkRet; rw [if_pos (by omega)]
    have HE : Hid _ := And.intro e True.intro
    replace h1 : decide ((n : Int) - p - 8 < 1) = true := decide_eq_true (by omega)
    clear h hl e hlen hk
    go_enter Tryd.func62, Tryd.ntmps62
    go_wp2_with fail
    go_at_call 58
    refine hr.mono ?_
    rintro e w1 ⟨rfl, hw1⟩
    rw [hw1]; clear hw1 w1
    go_wp2_with fail
    go_at_call 43
    refine (leaveIf_t _ 2 _).mono ?_
    rintro e w2 ⟨rfl, hw2⟩
    rw [hw2]; clear hw2 w2
    go_wp2_with fail
    exact ⟨rfl, (Chg.refl _ w).drew, Or.inl ⟨2, HE.out.1, rfl⟩⟩
  have h1' : decide ((n : Int) - p - 8 < 1) = false := decide_eq_false (by omega)
  by_cases h2 : p + 72 < n
  · have e : pkRet xs p = .error 3 := by unfold pkRet; rw [if_neg (by omega), if_pos (by omega)]
    have HE : Hid _ := And.intro e True.intro
    replace h2 : decide (64 < (n : Int) - p - 8) = true := decide_eq_true (by omega)
    clear h hl e hlen hk h1
    go_enter Tryd.func62, Tryd.ntmps62
    go_wp2_with fail
    go_at_call 58
    refine hr.mono ?_
    rintro e w1 ⟨rfl, hw1⟩
    rw [hw1]; clear hw1 w1
    go_wp2_with fail
    go_at_call 43
    refine (leaveIf_f _ 2 _).mono ?_
    rintro e w2 ⟨rfl, hw2⟩
    rw [hw2]; clear hw2 w2
    go_wp2_with fail
    go_at_call 43
    refine (leaveIf_t _ 3 _).mono ?_
    rintro e w2 ⟨rfl, hw2⟩
    rw [hw2]; clear hw2 w2
    go_wp2_with fail
    exact ⟨rfl, (Chg.refl _ w).drew, Or.inl ⟨3, HE.out.1, rfl⟩⟩
  obtain ⟨m, hm⟩ : ∃ m : Nat, n = p + m + 8 := ⟨n - p - 8, by omega⟩
  have e : pkRet xs p = .ok (sub xs p m) := by unfold pkRet; rw [if_neg (by omega), if_neg (by omega), show xs.length - p - 8 = m by omega]
  have hsl : (sub xs p m).length = m := sub_len xs p m (by omega)
  have hm' : (n : Int) - p = (m : Int) + 8 := by omega
  have hw : IntKind.i64.wrap ((m : Int) + 8 - 8) = (m : Int) := by rw [IntKind.wrap_i64]; omega
  rw [hm'] at hr
  have h1' : decide ((m : Int) < 1) = false := decide_eq_false (by omega)
  have h2' : decide ((64 : Int) < (m : Int)) = false := decide_eq_false (by omega)
  have ht := take_ok g b off n cap p m xs w.drew h.drew hl.drew hgb hn (by omega)
  have HE : Hid _ := And.intro e (And.intro hsl (And.intro hk (And.intro hgp (by omega : m ≤ 64))))
  have c0 := h.c0
  change Calls _ _ _ _ fun e w' => ∃ v, e = .returned v ∧ w'.ownsRow w.drew.heap.size 5 1 v m ((sub xs p m).map (Value.int .u8)) ∧ _ at ht
  generalize sub xs p m = ys at *
  clear h hl e hlen hk h1 h2 hm hsl
  go_enter Tryd.func62, Tryd.ntmps62
  go_wp2_with fail
  go_at_call 58
  refine hr.mono ?_
  rintro e w1 ⟨rfl, hw1⟩
  rw [hw1]; clear hw1 w1
  go_wp2_with fail
  go_at_call 43
  refine (leaveIf_f _ 2 _).mono ?_
  rintro e w2 ⟨rfl, hw2⟩
  rw [hw2]; clear hw2 w2
  go_wp2_with fail
  go_at_call 43
  refine (leaveIf_f _ 3 _).mono ?_
  rintro e w2 ⟨rfl, hw2⟩
  rw [hw2]; clear hw2 w2
  go_wp2_with fail
  go_at_call 57
  refine ht.mono ?_
  rintro e w3 ⟨vt', rfl, o3, r3, c3⟩
  obtain ⟨va, vp, ev⟩ := (row_of_owns o3).form
  rw [HE.out.2.1] at ev
  have c3' : Chg (· = g) w w3 := ((Chg.refl _ w).drew).trans c3
  have k3 := HE.out.2.2.1.chg c3' HE.out.2.2.2.1
  have x3 := k3.c_vt
  have y3 := k3.fr 4
  have k4 := k3.set_vt vt'
  have r4 := (r3.other (i := 4) (u := vt') HE.out.2.2.2.1).c0
  have x4 := k4.c_fin
  have y4 := k4.fr 10
  have k5 := k4.set_fin n
  have hs3 := k3.lt
  have hne : ∀ q, vt'.ownBlock = some q → some q ≠ some pb := fun q hq e => by have h1 := (o3.lt q hq).1; have h2 := HE.out.2.2.1.lt; have := Option.some.inj e; have h3 : w.drew.heap.size = w.heap.size := rfl; omega
  have o5 := ((Only.setCell (w := w3.setCell ⟨pb, 4, none⟩ vt') ⟨pb, 10, none⟩ (.int .i64 n)).owns ((Only.setCell (w := w3) ⟨pb, 4, none⟩ vt').owns o3 hne) hne)
  have HC : Hid _ := And.intro (((c3'.toG (pb := pb)).setP 4 vt').setP 10 (.int .i64 n)) (And.intro k5 o5)
  clear k3 k4 k5 r3 c3 c3' o3 o5 hne
  subst ev
  go_wp2_with fail
  go_end0
  exact ⟨HC.out.1, Or.inr ⟨_, _, HE.out.1, rfl, HC.out.2.1, by rw [HE.out.2.1]; exact HC.out.2.2, by rw [HE.out.2.1]; exact HE.out.2.2.2.2⟩⟩
/-- A short head: the id, the number's place. -/
def pkSho (xs : List Int) (p cl : Nat) : Except Int (List Int × Nat) := if xs.length < p + cl + 12 then .error 2 else .ok (sub xs p cl, p + cl)
set_option maxRecDepth 20000 in
set_option maxHeartbeats 2000000 in
theorem shortRC (g pb b off n cap p cl : Nat) (xs : List Int) (f v : Int) (vd vs vt vv : Value) (na fin : Int) (w : World) (h : rdB w g (.slice (some ⟨b, off, none⟩) n cap) p) (hk : pkB w pb f v vd vs vt vv na fin)
    (hl : Lies w b off n cap xs) (hgb : b ≠ g) (hgp : pb ≠ g) (hbp : b ≠ pb) (hn : n ≤ 65536) (hp : p ≤ n) (hcl : cl ≤ 8) :
    Calls Tryd.prog 47 #[.pointer (some ⟨pb, 0, none⟩), .pointer (some ⟨g, 0, none⟩), .int .i64 cl] w fun e w' => Chg (SG g pb) w w' ∧ ((∃ c, pkSho xs p cl = .error c ∧ e = .panicked [leftP c]) ∨
      ∃ d q vd', pkSho xs p cl = .ok (d, q) ∧ e = .returned (.tuple #[]) ∧ pkB w' pb 4 v vd' vs vt vv (q : Nat) n ∧ w'.ownsRow w.heap.size 5 1 vd' d.length (d.map (Value.int .u8)) ∧ d.length ≤ 8 ∧ p ≤ q ∧ q ≤ n) := by
  have hlen := hl.len
  have x0 := hk.c_f
  have y0 := hk.fr 0
  have k0 := hk.set_f 4
  have r0 := h.other (i := 0) (u := .int .i64 4) hgp
  have l0 := hl.setP (i := 0) (u := .int .i64 4) hbp
  have C0 := ((Chg.refl (SG g pb) w).setP 0 (.int .i64 4))
  by_cases h1 : n < p + cl
  · have ht := take_no g (some ⟨b, off, none⟩) n cap p cl _ r0 ⟨by omega, by omega⟩ (by omega) (by omega)
    have e : pkSho xs p cl = .error 2 := by unfold pkSho; rw [if_pos (by omega)]
    have HE : Hid _ := And.intro e C0
    clear h hl e hlen hk k0 r0 l0 C0
    go_enter Tryd.func47, Tryd.ntmps47
    go_wp2_with fail
    go_at_call 57
    refine ht.mono ?_
    rintro e w1 ⟨rfl, hw1⟩
    rw [hw1]; clear hw1 w1
    go_wp2_with fail
    exact ⟨rfl, HE.out.2.drew, Or.inl ⟨2, HE.out.1, rfl⟩⟩
  have ht := take_ok g b off n cap p cl xs _ r0 l0 hgb hn (by omega)
  have hsl : (sub xs p cl).length = cl := sub_len xs p cl (by omega)
  have hs0 : (w.setCell ⟨pb, 0, none⟩ (.int .i64 4)).heap.size = w.heap.size := by simp [World.setCell]
  have HE : Hid _ := And.intro hsl (And.intro k0 (And.intro hgp (And.intro C0 (And.intro hs0 (And.intro hk.lt hn)))))
  have hcl2 : p + cl ≤ n := by omega
  obtain ⟨pc, epc⟩ : ∃ pc : Nat, p + cl = pc := ⟨_, rfl⟩
  rw [epc] at ht hcl2
  by_cases h2 : n < p + cl + 12
  · have e : pkSho xs p cl = .error 2 := by unfold pkSho; rw [if_pos (by omega)]
    have HQ : Hid _ := And.intro e hcl2
    have h2' : decide ((n : Int) - (pc : Int) < 12) = true := decide_eq_true (by omega)
    change Calls _ _ _ _ fun e w' => ∃ v, e = .returned v ∧ w'.ownsRow _ 5 1 v cl ((sub xs p cl).map (Value.int .u8)) ∧ _ at ht
    generalize sub xs p cl = ys at *
    clear h hl e hlen hk k0 r0 l0 C0 hsl hs0 h1 hcl2
    go_enter Tryd.func47, Tryd.ntmps47
    go_wp2_with fail
    go_at_call 57
    refine ht.mono ?_
    rintro e w3 ⟨vd', rfl, o3, r3, c3⟩
    obtain ⟨va, vp, ev⟩ := (row_of_owns o3).form
    rw [show List.length _ = cl from HE.out.1] at ev
    have k3 := HE.out.2.1.chg c3 HE.out.2.2.1
    have x3 := k3.c_vd
    have y3 := k3.fr 2
    have k4 := k3.set_vd vd'
    have r4 := r3.other (i := 2) (u := vd') HE.out.2.2.1
    have z4 := r4.c1
    have x4 := k4.c_na
    have y4 := k4.fr 9
    have r5 := r4.other (i := 9) (u := .int .i64 (pc : Int)) HE.out.2.2.1
    have hr := restC g (some ⟨b, off, none⟩) n cap (pc : Int) _ r5 ⟨by omega, by have := HQ.out.2; omega⟩ (by have := HE.out.2.2.2.2.2.2; omega)
    have HC : Hid _ := And.intro (((HE.out.2.2.2.1.trans c3.toG).setP 2 vd').setP 9 (.int .i64 (pc : Int))) True.intro
    clear k3 k4 r3 c3 o3 r4 r5
    subst ev
    go_wp2_with fail
    go_at_call 58
    refine hr.mono ?_
    rintro e w1 ⟨rfl, hw1⟩
    rw [hw1]; clear hw1 w1
    go_wp2_with fail
    go_at_call 43
    refine (leaveIf_t _ 2 _).mono ?_
    rintro e w2 ⟨rfl, hw2⟩
    rw [hw2]; clear hw2 w2
    go_wp2_with fail
    exact ⟨rfl, HC.out.1.drew, Or.inl ⟨2, HQ.out.1, rfl⟩⟩
  · have e : pkSho xs p cl = .ok (sub xs p cl, pc) := by unfold pkSho; rw [if_neg (by omega), epc]
    have HQ : Hid _ := And.intro e hcl2
    have h2' : decide ((n : Int) - (pc : Int) < 12) = false := decide_eq_false (by omega)
    change Calls _ _ _ _ fun e w' => ∃ v, e = .returned v ∧ w'.ownsRow _ 5 1 v cl ((sub xs p cl).map (Value.int .u8)) ∧ _ at ht
    generalize sub xs p cl = ys at *
    clear h hl e hlen hk k0 r0 l0 C0 hsl hs0 h1 hcl2
    go_enter Tryd.func47, Tryd.ntmps47
    go_wp2_with fail
    go_at_call 57
    refine ht.mono ?_
    rintro e w3 ⟨vd', rfl, o3, r3, c3⟩
    obtain ⟨va, vp, ev⟩ := (row_of_owns o3).form
    rw [show List.length _ = cl from HE.out.1] at ev
    have k3 := HE.out.2.1.chg c3 HE.out.2.2.1
    have x3 := k3.c_vd
    have y3 := k3.fr 2
    have k4 := k3.set_vd vd'
    have r4 := r3.other (i := 2) (u := vd') HE.out.2.2.1
    have z4 := r4.c1
    have x4 := k4.c_na
    have y4 := k4.fr 9
    have k5 := k4.set_na (pc : Int)
    have r5 := r4.other (i := 9) (u := .int .i64 (pc : Int)) HE.out.2.2.1
    have hr := restC g (some ⟨b, off, none⟩) n cap (pc : Int) _ r5 ⟨by omega, by have := HQ.out.2; omega⟩ (by have := HE.out.2.2.2.2.2.2; omega)
    have z5 := r5.drew.c0
    have x5 : ((w3.setCell ⟨pb, 2, none⟩ vd').setCell ⟨pb, 9, none⟩ (.int .i64 (pc : Int))).drew.cell? ⟨pb, 10, none⟩ = _ := k5.c_fin
    have y5 : ((w3.setCell ⟨pb, 2, none⟩ vd').setCell ⟨pb, 9, none⟩ (.int .i64 (pc : Int))).drew.frozen? ⟨pb, 10, none⟩ = _ := k5.fr 10
    have k6 := k5.set_fin n
    have hne : ∀ q, vd'.ownBlock = some q → some q ≠ some pb := fun q hq e => by have h1 := (o3.lt q hq).1; have h2 := HE.out.2.2.2.2.2.1; have := Option.some.inj e; rw [HE.out.2.2.2.2.1] at h1; omega
    have o6 := (Only.setCell (w := (w3.setCell ⟨pb, 2, none⟩ vd').setCell ⟨pb, 9, none⟩ (.int .i64 (pc : Int))) ⟨pb, 10, none⟩ (.int .i64 n)).owns ((Only.setCell (w := w3.setCell ⟨pb, 2, none⟩ vd') ⟨pb, 9, none⟩ (.int .i64 (pc : Int))).owns ((Only.setCell (w := w3) ⟨pb, 2, none⟩ vd').owns o3 hne) hne) hne
    have HC : Hid _ := And.intro ((((HE.out.2.2.2.1.trans c3.toG).setP 2 vd').setP 9 (.int .i64 (pc : Int))).setP 10 (.int .i64 n)) (And.intro k6 (And.intro (owns_mono o6 (base' := w.heap.size) (by rw [HE.out.2.2.2.2.1]; exact Nat.le_refl _)) (by omega : p ≤ pc)))
    clear k3 k4 k5 k6 r3 c3 o3 o6 r4 r5 hne
    subst ev
    go_wp2_with fail
    go_at_call 58
    refine hr.mono ?_
    rintro e w1 ⟨rfl, hw1⟩
    rw [hw1]; clear hw1 w1
    go_wp2_with fail
    go_at_call 43
    refine (leaveIf_f _ 2 _).mono ?_
    rintro e w2 ⟨rfl, hw2⟩
    rw [hw2]; clear hw2 w2
    go_wp2_with fail
    go_end0
    exact ⟨HC.out.1.drew, Or.inr ⟨_, _, _, HQ.out.1, rfl, HC.out.2.1, by rw [HE.out.1]; exact HC.out.2.2.1, by rw [HE.out.1]; omega, HC.out.2.2.2, HQ.out.2⟩⟩
end Go.Proofs.YtbbiinbjgognjaaDoor
