import Derived.Test.YthjakbpcpfmbjaaFtD
import Derived.Test.YthjakbpcpfmbjaaFbSendOpB
namespace Go.Proofs.Ythjakbpcpfmbjaa
open Go.RowKit
set_option linter.unusedVariables false

/-- The source stands, at the state st. -/
def Dz (W : World) (g : Nat) (c : Value) (xs : List Int) (st : St) (p : Int) : Prop := Low g c ∧ Drw W g c xs st ∧ st.pos ≤ p
theorem Dz.dt {W : World} {g : Nat} {c : Value} {xs : List Int} {st : St} {p : Int} (h : Dz W g c xs st p) : Dt W g c xs p := ⟨h.1, st, h.2.1, h.2.2⟩
theorem Dz.lt {W : World} {g : Nat} {c : Value} {xs : List Int} {st : St} {p : Int} (h : Dz W g c xs st p) : g < W.heap.size := h.dt.lt
theorem Dz.mono {W : World} {g : Nat} {c : Value} {xs : List Int} {st : St} {p q : Int} (h : Dz W g c xs st p) (hq : p ≤ q) : Dz W g c xs st q := ⟨h.1, h.2.1, Int.le_trans h.2.2 hq⟩
theorem Dz.alloc {W : World} {g : Nat} {c : Value} {xs : List Int} {st : St} {p : Int} (h : Dz W g c xs st p) (o : Obj) : Dz (W.alloc o) g c xs st p := ⟨h.1, drw_alloc h.2.1 o, h.2.2⟩
theorem Dz.grown {W W' : World} {g : Nat} {c : Value} {xs : List Int} {st : St} {p : Int} {r : Option Nat} (h : Dz W g c xs st p) (hg : W.grownBy W' r) (hr : ∀ k, r = some k → g < k) : Dz W' g c xs st p :=
  ⟨h.1, h.2.1.kept hg (fun e => by have := hr _ e.symm; omega) (fun b off n cap h0 e e' => by have := h.1 b off n cap h0 e; have := hr _ e'.symm; omega), h.2.2⟩
theorem nextZ (g : Nat) (c : Value) (xs : List Int) (st : St) (p n : Int) (W : World) (h : Dz W g c xs st p) (hp : p ≤ 1000000) (h1 : 1 ≤ n) (h2 : n ≤ 2147483648) :
    Calls Try.prog 13 #[.pointer (some ⟨g, 0, none⟩), .int .i64 n] W fun e w' => ∃ (k : Int) (s' : St), k = nextV xs n st ∧ s' = nextS xs n st ∧ e = .returned (.int .i64 k) ∧ 0 ≤ k ∧ k < n ∧ Dz w' g c xs s' (p + 3) ∧ W.grownBy w' (some g) := by
  obtain ⟨l, hd, hs⟩ := h
  refine (nextC g c xs n st W hd (by omega) h1 h2).mono ?_
  rintro e w' ⟨rfl, d, gr⟩
  have b := nextV_bd xs n st h1
  have q := nextS_pos xs n st
  exact ⟨_, _, rfl, rfl, rfl, b.1, b.2, ⟨l, d, by omega⟩, gr⟩
theorem chanceZ (g : Nat) (c : Value) (xs : List Int) (st : St) (p n : Int) (W : World) (h : Dz W g c xs st p) (hp : p ≤ 1000000) (h1 : 1 ≤ n) (h2 : n ≤ 2147483648) :
    Calls Try.prog 15 #[.pointer (some ⟨g, 0, none⟩), .int .i64 n] W fun e w' => ∃ (k : Bool) (s' : St), k = (nextV xs n st == n - 1) ∧ s' = nextS xs n st ∧ e = .returned (.bool k) ∧ Dz w' g c xs s' (p + 3) ∧ W.grownBy w' (some g) := by
  obtain ⟨l, hd, hs⟩ := h
  refine (chanceC g c xs n st W hd (by omega) h1 h2).mono ?_
  rintro e w' ⟨rfl, d, gr⟩
  have q := nextS_pos xs n st
  exact ⟨_, _, rfl, rfl, rfl, ⟨l, d, by omega⟩, gr⟩
theorem numberZ (g : Nat) (c : Value) (xs : List Int) (st : St) (p : Int) (W : World) (h : Dz W g c xs st p) (hp : p ≤ 1000000) :
    Calls Try.prog 16 #[.pointer (some ⟨g, 0, none⟩)] W fun e w' => ∃ (k : Int) (s' : St), k = numV xs st ∧ s' = numS xs st ∧ e = .returned (.int .i64 k) ∧ Dz w' g c xs s' (p + 9) ∧ W.grownBy w' (some g) := by
  obtain ⟨l, hd, hs⟩ := h
  refine (numberC g c xs st W hd (by omega)).mono ?_
  rintro e w' ⟨rfl, d, gr⟩
  have q := numS_pos xs st
  exact ⟨_, _, rfl, rfl, rfl, ⟨l, d, by omega⟩, gr⟩
theorem sizeZ (g : Nat) (c : Value) (xs : List Int) (st : St) (p m : Int) (W : World) (h : Dz W g c xs st p) (hm0 : 0 ≤ m) (hm1 : m ≤ 2147483648) :
    Calls Try.prog 14 #[.pointer (some ⟨g, 0, none⟩), .int .i64 m] W fun e w' => ∃ k : Int, k = szV xs m ∧ e = .returned (.int .i64 k) ∧ 0 ≤ k ∧ k ≤ m ∧ w' = W := by
  obtain ⟨l, hd, hs⟩ := h
  refine (sizeC g c xs m st W hd hm0 hm1).mono ?_
  rintro e w' ⟨rfl, rfl⟩
  refine ⟨_, rfl, rfl, ?_, ?_, rfl⟩ <;> unfold szV <;> split <;> omega
theorem dz_new {w : World} {v : Value} {xs : List Int} (hrow : Row w .u8 v xs) (hB : Bytes xs) (hl : xs.length ≤ 1048576) :
    Dz (w.alloc (.cells #[v, .int .i64 0, .int .i64 ((xs.length : Int) % 1000)] 61)) w.heap.size v xs (stZ xs) 0 := by
  refine ⟨?_, drw_new hrow hB hl, Int.le_refl 0⟩
  intro b off n cap h0 e
  rcases hrow with ⟨rfl, ao, cap', e'⟩ | ⟨b', off', cap', e', hb, _⟩
  · rw [e] at e'; cases e'; omega
  · rw [e] at e'; cases e'; omega
/-- DrawSendRun: an operation, ahead of its two bends. -/
def k15 : List Int := [1, 1, 3, 3, 4, 4, 4, 4, 5, 5, 6, 6, 2, 7, 8]
def dA (xs : List Int) (k : Int) (a : Nat) (s : St) : SSendOp × Nat × St :=
  if k = 1 then (⟨1, 0, 0, bysV xs (nextS xs 15 s) (nextV xs 15 s).toNat, false⟩, a + (nextV xs 15 s).toNat, bysS xs (nextS xs 15 s) (nextV xs 15 s).toNat)
  else if k = 3 then (⟨3, 0, nextV xs ((a : Int) + 10) s, [], false⟩, a, nextS xs ((a : Int) + 10) s)
  else if k = 4 then (⟨4, 0, 1 + nextV xs 12 s, [], false⟩, a, nextS xs 12 s)
  else if k = 5 ∨ k = 6 then
    if nextV xs 3 (nextS xs ((a : Int) - nextV xs ((a : Int) + 1) s + 2) (nextS xs ((a : Int) + 1) s)) = 2 then (⟨k, nextV xs ((a : Int) + 1) s, max 0 ((a : Int) - nextV xs ((a : Int) + 1) s), [], true⟩, a, nextS xs 3 (nextS xs ((a : Int) - nextV xs ((a : Int) + 1) s + 2) (nextS xs ((a : Int) + 1) s)))
    else (⟨k, nextV xs ((a : Int) + 1) s, nextV xs ((a : Int) - nextV xs ((a : Int) + 1) s + 2) (nextS xs ((a : Int) + 1) s), [], false⟩, a, nextS xs 3 (nextS xs ((a : Int) - nextV xs ((a : Int) + 1) s + 2) (nextS xs ((a : Int) + 1) s)))
  else if nextV xs 3 s = 2 then (⟨k, 0, 0, [], false⟩, a, nextS xs 3 s) else (⟨4, 0, 1500, [], false⟩, a, nextS xs 3 s)
def dB (xs : List Int) (o : SSendOp) (s : St) : SSendOp × St := if nextV xs 40 s = 39 then (⟨o.f0, o.f1, numV xs (nextS xs 40 s), o.f3, o.f4⟩, numS xs (nextS xs 40 s)) else (o, nextS xs 40 s)
def dC (xs : List Int) (o : SSendOp) (s : St) : SSendOp × St := if nextV xs 60 s = 59 then (⟨nextV xs 11 (nextS xs 60 s) - 1, o.f1, o.f2, o.f3, o.f4⟩, nextS xs 11 (nextS xs 60 s)) else (o, nextS xs 60 s)
def dOp (xs : List Int) (a : Nat) (s : St) : SSendOp × Nat × St :=
  let r := dA xs (k15.getD (nextV xs 15 s).toNat 0) a (nextS xs 15 s)
  let t := dB xs r.1 r.2.2
  let u := dC xs t.1 t.2
  (u.1, r.2.1, u.2)
def dLp (xs : List Int) (s0 : St) : Nat → List SSendOp × Nat × St
  | 0 => ([], 0, s0)
  | i + 1 => ((dLp xs s0 i).1 ++ [(dOp xs (dLp xs s0 i).2.1 (dLp xs s0 i).2.2).1], (dOp xs (dLp xs s0 i).2.1 (dLp xs s0 i).2.2).2.1, (dOp xs (dLp xs s0 i).2.1 (dLp xs s0 i).2.2).2.2)
theorem dLp_succ (xs : List Int) (s0 : St) (i : Nat) : dLp xs s0 (i + 1) = ((dLp xs s0 i).1 ++ [(dOp xs (dLp xs s0 i).2.1 (dLp xs s0 i).2.2).1], (dOp xs (dLp xs s0 i).2.1 (dLp xs s0 i).2.2).2.1, (dOp xs (dLp xs s0 i).2.1 (dLp xs s0 i).2.2).2.2) := rfl
theorem dLp_len (xs : List Int) (s0 : St) : ∀ i, (dLp xs s0 i).1.length = i
  | 0 => rfl
  | i + 1 => by rw [dLp_succ, List.length_append, dLp_len xs s0 i]; rfl
/-- How many times the loop goes round. -/
def dN (xs : List Int) : Nat := (nextV xs (szV xs 80 + 1) (stZ xs)).toNat + 1
def dS0 (xs : List Int) : St := nextS xs (szV xs 80 + 1) (stZ xs)
/-- What DrawSendRun draws. -/
def dsr (xs : List Int) : List SSendOp :=
  let r := dLp xs (dS0 xs) (dN xs)
  if nextV xs 30 r.2.2 = 29 then r.1 ++ [⟨1, 0, 0, List.replicate (max 0 (65536 - (r.2.1 : Int) + nextV xs 2 (nextS xs 30 r.2.2))).toNat 0, false⟩, ⟨3, 0, 4611686018427387903, [], false⟩, ⟨4, 0, 1500, [], false⟩] else r.1
theorem k15_ok (i : Int) (h0 : 0 ≤ i) (h1 : i < 15) : ∃ k : Int, k15.getD i.toNat 0 = k ∧ (k = 1 ∨ k = 2 ∨ k = 3 ∨ k = 4 ∨ k = 5 ∨ k = 6 ∨ k = 7 ∨ k = 8) := by
  refine ⟨_, rfl, ?_⟩
  obtain ⟨n, rfl⟩ := Int.eq_ofNat_of_zero_le h0
  have hn : n < 15 := by omega
  match n, hn with
  | 0, _ => decide
  | 1, _ => decide
  | 2, _ => decide
  | 3, _ => decide
  | 4, _ => decide
  | 5, _ => decide
  | 6, _ => decide
  | 7, _ => decide
  | 8, _ => decide
  | 9, _ => decide
  | 10, _ => decide
  | 11, _ => decide
  | 12, _ => decide
  | 13, _ => decide
  | 14, _ => decide
theorem dA_at (xs : List Int) (k : Int) (a : Nat) (s : St) : a ≤ (dA xs k a s).2.1 ∧ (dA xs k a s).2.1 ≤ a + 14 := by
  have := nextV_bd xs 15 s (by decide)
  unfold dA
  split
  · exact ⟨by show a ≤ a + _; omega, by show a + _ ≤ a + 14; omega⟩
  split
  · exact ⟨Nat.le_refl _, by show a ≤ _; omega⟩
  split
  · exact ⟨Nat.le_refl _, by show a ≤ _; omega⟩
  split
  · split <;> exact ⟨Nat.le_refl _, by show a ≤ _; omega⟩
  · split <;> exact ⟨Nat.le_refl _, by show a ≤ _; omega⟩
theorem dLp_at (xs : List Int) (s0 : St) : ∀ i, (dLp xs s0 i).2.1 ≤ 14 * i
  | 0 => Nat.le_refl _
  | i + 1 => by
    rw [dLp_succ]
    have h1 := dLp_at xs s0 i
    have h2 := (dA_at xs (k15.getD (nextV xs 15 (dLp xs s0 i).2.2).toNat 0) (dLp xs s0 i).2.1 (nextS xs 15 (dLp xs s0 i).2.2)).2
    show (dA xs (k15.getD (nextV xs 15 (dLp xs s0 i).2.2).toNat 0) (dLp xs s0 i).2.1 (nextS xs 15 (dLp xs s0 i).2.2)).2.1 ≤ _
    omega
theorem dN_le (xs : List Int) : 1 ≤ dN xs ∧ dN xs ≤ 81 := by
  have h0 : 0 ≤ szV xs 80 ∧ szV xs 80 ≤ 80 := by unfold szV; split <;> omega
  have := nextV_bd xs (szV xs 80 + 1) (stZ xs) (by omega)
  unfold dN
  omega
end Go.Proofs.Ythjakbpcpfmbjaa
