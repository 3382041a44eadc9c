import Derived.Test.YtbbiinbjgognjaaDoorRdJ
namespace Go.Proofs.YtbbiinbjgognjaaDoor
open Go.RowKit
set_option linter.unusedVariables false

theorem Chg.mono {S T : Nat → Prop} {w w' : World} (h : Chg S w w') (hs : ∀ k, S k → T k) : Chg T w w' := ⟨h.os, h.tape, h.output, h.size, fun k hk hn => h.block k hk (fun hh => hn (hs k hh))⟩
theorem Chg.set {S : Nat → Prop} {w w' : World} (h : Chg S w w') (g i : Nat) (u : Value) (hg : S g) : Chg S w (w'.setCell ⟨g, i, none⟩ u) :=
  h.trans ⟨rfl, rfl, rfl, by simp [World.setCell], fun q hq hs => bk_other (fun e => hs (by rw [e]; exact hg)) i u⟩
/-- The blocks of the reader and of what is peeked. -/
abbrev SG (g pb : Nat) : Nat → Prop := fun k => k = g ∨ k = pb
theorem Chg.toG {g pb : Nat} {w w' : World} (h : Chg (· = g) w w') : Chg (SG g pb) w w' := h.mono fun _ hk => Or.inl hk
theorem Chg.setP {g pb : Nat} {w w' : World} (h : Chg (SG g pb) w w') (i : Nat) (u : Value) : Chg (SG g pb) w (w'.setCell ⟨pb, i, none⟩ u) := h.set pb i u (Or.inr rfl)
theorem Chg.drew {S : Nat → Prop} {w w' : World} (h : Chg S w w') : Chg S w w'.drew := h.trans ⟨rfl, rfl, rfl, Nat.le_refl _, fun _ _ _ => rfl⟩
theorem Chg.refl (S : Nat → Prop) (w : World) : Chg S w w := ⟨rfl, rfl, rfl, Nat.le_refl _, fun _ _ _ => rfl⟩
/-- What of a packet is peeked, as its block holds it. -/
def pkB (w : World) (pb : Nat) (f v : Int) (vd vs vt vv : Value) (na fin : Int) : Prop :=
  w.heap[pb]? = some (.cells #[.int .i64 f, .int .i64 v, vd, vs, vt, .int .i64 0, .int .i64 0, .int .i64 0, vv, .int .i64 na, .int .i64 fin] 46 (0, 0))
theorem pkB.chg {w w' : World} {pb : Nat} {f v : Int} {vd vs vt vv : Value} {na fin : Int} {S : Nat → Prop} (h : pkB w pb f v vd vs vt vv na fin) (hc : Chg S w w') (hs : ¬ S pb) : pkB w' pb f v vd vs vt vv na fin :=
  (hc.block pb ((Array.getElem?_eq_some_iff.1 h).1) hs).trans h
theorem pkB.lt {w : World} {pb : Nat} {f v : Int} {vd vs vt vv : Value} {na fin : Int} (h : pkB w pb f v vd vs vt vv na fin) : pb < w.heap.size := (Array.getElem?_eq_some_iff.1 h).1
theorem rdB.chg {w w' : World} {g : Nat} {vb : Value} {p : Int} {S : Nat → Prop} (h : rdB w g vb p) (hc : Chg S w w') (hs : ¬ S g) : rdB w' g vb p := (hc.block g h.lt hs).trans h
theorem rdB.other {w : World} {g q i : Nat} {vb u : Value} {p : Int} (h : rdB w g vb p) (hq : q ≠ g) : rdB (w.setCell ⟨q, i, none⟩ u) g vb p := (bk_other (fun e => hq e.symm) i u).trans h

theorem pkB.set_f {w : World} {pb : Nat} {f v : Int} {vd vs vt vv : Value} {na fin : Int} (h : pkB w pb f v vd vs vt vv na fin) (x : Int) : pkB (w.setCell ⟨pb, 0, none⟩ (.int .i64 x)) pb x v vd vs vt vv na fin := bk_set h 0 _
theorem pkB.c_f {w : World} {pb : Nat} {f v : Int} {vd vs vt vv : Value} {na fin : Int} (h : pkB w pb f v vd vs vt vv na fin) : w.cell? ⟨pb, 0, none⟩ = some (.int .i64 f) := (bk_cell h 0).trans rfl
theorem pkB.set_v {w : World} {pb : Nat} {f v : Int} {vd vs vt vv : Value} {na fin : Int} (h : pkB w pb f v vd vs vt vv na fin) (x : Int) : pkB (w.setCell ⟨pb, 1, none⟩ (.int .i64 x)) pb f x vd vs vt vv na fin := bk_set h 1 _
theorem pkB.c_v {w : World} {pb : Nat} {f v : Int} {vd vs vt vv : Value} {na fin : Int} (h : pkB w pb f v vd vs vt vv na fin) : w.cell? ⟨pb, 1, none⟩ = some (.int .i64 v) := (bk_cell h 1).trans rfl
theorem pkB.set_vd {w : World} {pb : Nat} {f v : Int} {vd vs vt vv : Value} {na fin : Int} (h : pkB w pb f v vd vs vt vv na fin) (x : Value) : pkB (w.setCell ⟨pb, 2, none⟩ (x)) pb f v x vs vt vv na fin := bk_set h 2 _
theorem pkB.c_vd {w : World} {pb : Nat} {f v : Int} {vd vs vt vv : Value} {na fin : Int} (h : pkB w pb f v vd vs vt vv na fin) : w.cell? ⟨pb, 2, none⟩ = some (vd) := (bk_cell h 2).trans rfl
theorem pkB.set_vs {w : World} {pb : Nat} {f v : Int} {vd vs vt vv : Value} {na fin : Int} (h : pkB w pb f v vd vs vt vv na fin) (x : Value) : pkB (w.setCell ⟨pb, 3, none⟩ (x)) pb f v vd x vt vv na fin := bk_set h 3 _
theorem pkB.c_vs {w : World} {pb : Nat} {f v : Int} {vd vs vt vv : Value} {na fin : Int} (h : pkB w pb f v vd vs vt vv na fin) : w.cell? ⟨pb, 3, none⟩ = some (vs) := (bk_cell h 3).trans rfl
theorem pkB.set_vt {w : World} {pb : Nat} {f v : Int} {vd vs vt vv : Value} {na fin : Int} (h : pkB w pb f v vd vs vt vv na fin) (x : Value) : pkB (w.setCell ⟨pb, 4, none⟩ (x)) pb f v vd vs x vv na fin := bk_set h 4 _
theorem pkB.c_vt {w : World} {pb : Nat} {f v : Int} {vd vs vt vv : Value} {na fin : Int} (h : pkB w pb f v vd vs vt vv na fin) : w.cell? ⟨pb, 4, none⟩ = some (vt) := (bk_cell h 4).trans rfl
theorem pkB.set_vv {w : World} {pb : Nat} {f v : Int} {vd vs vt vv : Value} {na fin : Int} (h : pkB w pb f v vd vs vt vv na fin) (x : Value) : pkB (w.setCell ⟨pb, 8, none⟩ (x)) pb f v vd vs vt x na fin := bk_set h 8 _
theorem pkB.c_vv {w : World} {pb : Nat} {f v : Int} {vd vs vt vv : Value} {na fin : Int} (h : pkB w pb f v vd vs vt vv na fin) : w.cell? ⟨pb, 8, none⟩ = some (vv) := (bk_cell h 8).trans rfl
theorem pkB.set_na {w : World} {pb : Nat} {f v : Int} {vd vs vt vv : Value} {na fin : Int} (h : pkB w pb f v vd vs vt vv na fin) (x : Int) : pkB (w.setCell ⟨pb, 9, none⟩ (.int .i64 x)) pb f v vd vs vt vv x fin := bk_set h 9 _
theorem pkB.c_na {w : World} {pb : Nat} {f v : Int} {vd vs vt vv : Value} {na fin : Int} (h : pkB w pb f v vd vs vt vv na fin) : w.cell? ⟨pb, 9, none⟩ = some (.int .i64 na) := (bk_cell h 9).trans rfl
theorem pkB.set_fin {w : World} {pb : Nat} {f v : Int} {vd vs vt vv : Value} {na fin : Int} (h : pkB w pb f v vd vs vt vv na fin) (x : Int) : pkB (w.setCell ⟨pb, 10, none⟩ (.int .i64 x)) pb f v vd vs vt vv na x := bk_set h 10 _
theorem pkB.c_fin {w : World} {pb : Nat} {f v : Int} {vd vs vt vv : Value} {na fin : Int} (h : pkB w pb f v vd vs vt vv na fin) : w.cell? ⟨pb, 10, none⟩ = some (.int .i64 fin) := (bk_cell h 10).trans rfl
theorem pkB.fr {w : World} {pb : Nat} {f v : Int} {vd vs vt vv : Value} {na fin : Int} (h : pkB w pb f v vd vs vt vv na fin) (o : Nat) : w.frozen? ⟨pb, o, none⟩ = false := bk_free h o

/-- What stands behind a head: the number's place, the packet's end. -/
def pkBeh (xs : List Int) (p : Nat) : Except Int (Nat × Nat) :=
  if varOK xs p then (if varV xs p < 12 ∨ 1508 < varV xs p then .error 3 else if xs.length < varN xs p + (varV xs p).toNat then .error 2 else .ok (varN xs p, varN xs p + (varV xs p).toNat)) else .error 2
set_option maxRecDepth 20000 in
set_option maxHeartbeats 2000000 in
theorem behindC (g pb b off n cap p : Nat) (xs : List Int) (f v : Int) (vd vs vt vv : Value) (na fin : Int) (w : World) (ht : Tab w) (h : rdB w g (.slice (some ⟨b, off, none⟩) n cap) p) (hk : pkB w pb f v vd vs vt vv na fin)
    (hl : Lies w b off n cap xs) (hB : Bytes xs) (hgb : b ≠ g) (hgp : pb ≠ g) (hn : n ≤ 65536) (hp : p ≤ n) :
    Calls Tryd.prog 64 #[.pointer (some ⟨pb, 0, none⟩), .pointer (some ⟨g, 0, none⟩)] w fun e w' => Chg (SG g pb) w w' ∧ ((∃ c, pkBeh xs p = .error c ∧ e = .panicked [leftP c]) ∨
      ∃ a q : Nat, pkBeh xs p = .ok (a, q) ∧ e = .returned (.tuple #[]) ∧ pkB w' pb f v vd vs vt vv a q ∧ 0 < a ∧ q ≤ n) := by
  have hlen := hl.len
  by_cases h1 : varOK xs p
  case neg =>
    have hc := variable_no g b off n cap p xs w ht h hl hB hn hp h1
    have e : pkBeh xs p = .error 2 := by unfold pkBeh; rw [if_neg h1]
    have HE : Hid _ := And.intro e True.intro
    clear h hl hB e hlen h1 ht hk
    go_enter Tryd.func64, Tryd.ntmps64
    go_wp2_with fail
    go_at_call 63
    refine hc.mono ?_
    rintro e w1 ⟨rfl, c1⟩
    go_wp2_with fail
    exact ⟨rfl, c1.toG, Or.inl ⟨2, HE.out.1, rfl⟩⟩
  have hc := variable_ok g b off n cap p xs w ht h hl hB hn h1
  have hbd := varV_bd xs p
  have hNd := varN_bd xs p h1
  rw [hlen] at hNd
  obtain ⟨V, hV⟩ : ∃ V : Nat, varV xs p = (V : Int) := ⟨(varV xs p).toNat, by omega⟩
  obtain ⟨N, hN⟩ : ∃ N : Nat, varN xs p = N := ⟨_, rfl⟩
  rw [hV, hN] at hc
  rw [hV] at hbd
  rw [hN] at hNd
  by_cases h2 : V < 12 ∨ 1508 < V
  case pos =>
    have e : pkBeh xs p = .error 3 := by unfold pkBeh; rw [if_pos h1, hV, if_pos (by omega)]
    have HE : Hid _ := And.intro e True.intro
    clear h hl hB e hlen h1 ht hk
    by_cases h3 : V < 12
    · replace h3 : decide ((V : Int) < 12) = true := decide_eq_true (by omega)
      clear h2
      go_enter Tryd.func64, Tryd.ntmps64
      go_wp2_with fail
      go_at_call 63
      refine hc.mono ?_
      rintro e w1 ⟨rfl, r1, c1⟩
      go_wp2_with fail
      go_at_call 43
      refine (leaveIf_t _ 3 _).mono ?_
      rintro e w2 ⟨rfl, rfl⟩
      go_wp2_with fail
      exact ⟨rfl, c1.toG, Or.inl ⟨3, HE.out.1, rfl⟩⟩
    · have h4 : decide ((1508 : Int) < (V : Int)) = true := decide_eq_true (by omega)
      replace h3 : decide ((V : Int) < 12) = false := decide_eq_false (by omega)
      clear h2
      go_enter Tryd.func64, Tryd.ntmps64
      go_wp2_with fail
      go_at_call 63
      refine hc.mono ?_
      rintro e w1 ⟨rfl, r1, c1⟩
      go_wp2_with fail
      go_at_call 43
      refine (leaveIf_t _ 3 _).mono ?_
      rintro e w2 ⟨rfl, rfl⟩
      go_wp2_with fail
      exact ⟨rfl, c1.toG, Or.inl ⟨3, HE.out.1, rfl⟩⟩
  have h3 : decide ((V : Int) < 12) = false := decide_eq_false (by omega)
  have h4 : decide ((1508 : Int) < (V : Int)) = false := decide_eq_false (by omega)
  have hw : IntKind.i64.wrap ((N : Int) + V) = (N : Int) + V := by rw [IntKind.wrap_i64]; omega
  have HB : Hid _ := And.intro hNd (And.intro hn (And.intro hk (And.intro hgp hbd)))
  by_cases h5 : n < N + V
  case pos =>
    have e : pkBeh xs p = .error 2 := by unfold pkBeh; rw [if_pos h1, hV, hN, if_neg (by omega), Int.toNat_natCast, if_pos (by omega)]
    have HE : Hid _ := And.intro e True.intro
    replace h5 : decide ((n : Int) - N < V) = true := decide_eq_true (by omega)
    clear h hl hB e hlen h1 ht hk h2 hV hN hn hNd hp hbd hgp
    go_enter Tryd.func64, Tryd.ntmps64
    go_wp2_with fail
    go_at_call 63
    refine hc.mono ?_
    rintro e w1 ⟨rfl, r1, c1⟩
    have k1 := HB.out.2.2.1.chg c1 HB.out.2.2.2.1
    have x1 := r1.c1
    have y1 := k1.fr 9
    have z1 := k1.c_na
    have r2 := r1.other (i := 9) (u := .int .i64 N) HB.out.2.2.2.1
    have hr := restC g (some ⟨b, off, none⟩) n cap N _ r2 ⟨by omega, by have := HB.out.1; omega⟩ (by have := HB.out.2.1; omega)
    have HC : Hid _ := And.intro ((c1.toG (pb := pb)).setP 9 (.int .i64 N)) True.intro
    clear k1 r1 c1 r2
    go_wp2_with fail
    go_at_call 43
    refine (leaveIf_f _ 3 _).mono ?_
    rintro e w2 ⟨rfl, hw2⟩
    rw [hw2]; clear hw2 w2
    go_wp2_with fail
    go_at_call 58
    refine hr.mono ?_
    rintro e w3 ⟨rfl, hw3⟩
    rw [hw3]; clear hw3 w3
    go_wp2_with fail
    go_at_call 43
    refine (leaveIf_t _ 2 _).mono ?_
    rintro e w4 ⟨rfl, hw4⟩
    rw [hw4]; clear hw4 w4
    go_wp2_with fail
    exact ⟨rfl, HC.out.1.drew, Or.inl ⟨2, HE.out.1, rfl⟩⟩
  have e : pkBeh xs p = .ok (N, N + V) := by unfold pkBeh; rw [if_pos h1, hV, hN, if_neg (by omega), Int.toNat_natCast, if_neg (by omega)]
  have HE : Hid _ := And.intro e h5
  replace h5 : decide ((n : Int) - N < V) = false := decide_eq_false (by omega)
  clear h hl hB e hlen h1 ht hk h2 hV hN hn hNd hp hbd hgp
  go_enter Tryd.func64, Tryd.ntmps64
  go_wp2_with fail
  go_at_call 63
  refine hc.mono ?_
  rintro e w1 ⟨rfl, r1, c1⟩
  have k1 := HB.out.2.2.1.chg c1 HB.out.2.2.2.1
  have x1 := r1.c1
  have y1 := k1.fr 9
  have z1 := k1.c_na
  have r2 := r1.other (i := 9) (u := .int .i64 N) HB.out.2.2.2.1
  have k2 := k1.set_na N
  have hr := restC g (some ⟨b, off, none⟩) n cap N _ r2 ⟨by omega, by have := HB.out.1; omega⟩ (by have := HB.out.2.1; omega)
  have x2 := r2.drew.c1
  have y2 : (w1.setCell ⟨pb, 9, none⟩ (.int .i64 N)).drew.frozen? ⟨pb, 10, none⟩ = false := k2.fr 10
  have z2 : (w1.setCell ⟨pb, 9, none⟩ (.int .i64 N)).drew.cell? ⟨pb, 10, none⟩ = _ := k2.c_fin
  have k3 : pkB ((w1.setCell ⟨pb, 9, none⟩ (.int .i64 N)).setCell ⟨pb, 10, none⟩ (.int .i64 ((N : Int) + V))) pb f v vd vs vt vv N ((N : Int) + V) := k2.set_fin _
  have HC : Hid _ := And.intro (((c1.toG (pb := pb)).setP 9 (.int .i64 N)).setP 10 (.int .i64 ((N : Int) + V))) k3
  clear k1 r1 c1 r2 k2 k3
  go_wp2_with fail
  go_at_call 43
  refine (leaveIf_f _ 3 _).mono ?_
  rintro e w2 ⟨rfl, hw2⟩
  rw [hw2]; clear hw2 w2
  go_wp2_with fail
  go_at_call 58
  refine hr.mono ?_
  rintro e w3 ⟨rfl, hw3⟩
  rw [hw3]; clear hw3 w3
  go_wp2_with fail
  go_at_call 43
  refine (leaveIf_f _ 2 _).mono ?_
  rintro e w4 ⟨rfl, hw4⟩
  rw [hw4]; clear hw4 w4
  go_wp2_with fail
  go_end0
  refine ⟨HC.out.1.drew, Or.inr ⟨N, N + V, HE.out.1, rfl, HC.out.2, by have := HB.out.1; omega, by have := HE.out.2; omega⟩⟩
end Go.Proofs.YtbbiinbjgognjaaDoor
