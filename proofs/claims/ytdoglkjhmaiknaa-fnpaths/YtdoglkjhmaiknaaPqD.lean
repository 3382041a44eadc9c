import Derived.Test.YtdoglkjhmaiknaaFlatB
import Derived.Test.YtdoglkjhmaiknaaPqA
import Derived.Test.YtdoglkjhmaiknaaFlat
import Derived.Test.YtdoglkjhmaiknaaAppRow
import Derived.Test.YtdoglkjhmaiknaaBlocks
import Derived.Laws.Rows
import Derived.ArgAppend
import Derived.Laws.IdiomCopy
import Derived.Lib.MinMax
import Derived.Test.YtdoglkjhmaiknaaPqC
import Derived.OrdersHeld
import Derived.RegionTactic
import Derived.Test.YtdoglkjhmaiknaaMem
namespace Go.Proofs.Ytdoglkjhmaiknaa
open Go.RowKit
set_option linter.unusedVariables false

/-- SendOp: its numbers and bytes. -/
structure SSendOp where
  f0 : Int
  f1 : Int
  f2 : Int
  f3 : List Int
  f4 : Bool
instance : Inhabited SSendOp := ⟨⟨0, 0, 0, [], false⟩⟩
def SSendOp.c (e : SSendOp) (u : Value) : List Value := [.int .i64 e.f0, .int .i64 e.f1, .int .i64 e.f2, u, .bool e.f4]
abbrev SSendOp.d (e : SSendOp) : List Int := e.f3
end Go.Proofs.Ytdoglkjhmaiknaa

namespace Go.Proofs.Ytdoglkjhmaiknaa
open Go.RowKit
set_option linter.unusedVariables false

/-- The source stands, at the state st. -/
def Dz (W : World) (g : Nat) (c : Value) (xs : List Int) (st : St) (p : Int) : Prop := Low g c ∧ Drw W g c xs st ∧ st.pos ≤ p
theorem Dz.dt {W : World} {g : Nat} {c : Value} {xs : List Int} {st : St} {p : Int} (h : Dz W g c xs st p) : Dt W g c xs p := ⟨h.1, st, h.2.1, h.2.2⟩
theorem Dz.lt {W : World} {g : Nat} {c : Value} {xs : List Int} {st : St} {p : Int} (h : Dz W g c xs st p) : g < W.heap.size := h.dt.lt
theorem Dz.mono {W : World} {g : Nat} {c : Value} {xs : List Int} {st : St} {p q : Int} (h : Dz W g c xs st p) (hq : p ≤ q) : Dz W g c xs st q := ⟨h.1, h.2.1, Int.le_trans h.2.2 hq⟩
theorem Dz.alloc {W : World} {g : Nat} {c : Value} {xs : List Int} {st : St} {p : Int} (h : Dz W g c xs st p) (o : Obj) : Dz (W.alloc o) g c xs st p := ⟨h.1, drw_alloc h.2.1 o, h.2.2⟩
theorem Dz.grown {W W' : World} {g : Nat} {c : Value} {xs : List Int} {st : St} {p : Int} {r : Option Nat} (h : Dz W g c xs st p) (hg : W.grownBy W' r) (hr : ∀ k, r = some k → g < k) : Dz W' g c xs st p :=
  ⟨h.1, h.2.1.kept hg (fun e => by have := hr _ e.symm; omega) (fun b off n cap h0 e e' => by have := h.1 b off n cap h0 e; have := hr _ e'.symm; omega), h.2.2⟩
theorem nextZ (g : Nat) (c : Value) (xs : List Int) (st : St) (p n : Int) (W : World) (h : Dz W g c xs st p) (hp : p ≤ 1000000) (h1 : 1 ≤ n) (h2 : n ≤ 2147483648) :
    Calls Try.prog 9 #[.pointer (some ⟨g, 0, none⟩), .int .i64 n] W fun e w' => ∃ (k : Int) (s' : St), k = nextV xs n st ∧ s' = nextS xs n st ∧ e = .returned (.int .i64 k) ∧ 0 ≤ k ∧ k < n ∧ Dz w' g c xs s' (p + 3) ∧ W.grownBy w' (some g) := by
  obtain ⟨l, hd, hs⟩ := h
  refine (nextC g c xs n st W hd (by omega) h1 h2).mono ?_
  rintro e w' ⟨rfl, d, gr⟩
  have b := nextV_bd xs n st h1
  have q := nextS_pos xs n st
  exact ⟨_, _, rfl, rfl, rfl, b.1, b.2, ⟨l, d, by omega⟩, gr⟩
theorem bytesZ (g : Nat) (c : Value) (xs : List Int) (st : St) (p : Int) (n : Nat) (W : World) (h : Dz W g c xs st p) (hp : p ≤ 1000000) (h1 : n ≤ 1000) :
    Calls Try.prog 12 #[.pointer (some ⟨g, 0, none⟩), .int .i64 (n : Int)] W fun e w' => ∃ (r : Value) (ys : List Int) (s' : St), ys = bysV xs st n ∧ s' = bysS xs st n ∧ e = .returned r ∧ ys.length = n ∧ Bytes ys ∧ w'.ownsRow W.heap.size 5 1 r n (ys.map (Value.int .u8)) ∧ Dz w' g c xs s' (p + 1000) ∧ W.grownBy w' (some g) := by
  have hgl := h.lt
  obtain ⟨l, hd, hs⟩ := h
  refine (bytesC g c xs st n W hd (fun b off m cap a e => by have := l b off m cap a e; omega) (by omega) (by omega)).mono ?_
  rintro e w' ⟨r, rfl, o, d, gr⟩
  have q := bysS_pos xs st n
  exact ⟨r, _, _, rfl, rfl, rfl, bysV_length xs st n, bysV_bytes xs st n hd.bytes, o, ⟨l, d, by omega⟩, gr⟩
theorem chanceZ (g : Nat) (c : Value) (xs : List Int) (st : St) (p n : Int) (W : World) (h : Dz W g c xs st p) (hp : p ≤ 1000000) (h1 : 1 ≤ n) (h2 : n ≤ 2147483648) :
    Calls Try.prog 11 #[.pointer (some ⟨g, 0, none⟩), .int .i64 n] W fun e w' => ∃ (k : Bool) (s' : St), k = (nextV xs n st == n - 1) ∧ s' = nextS xs n st ∧ e = .returned (.bool k) ∧ Dz w' g c xs s' (p + 3) ∧ W.grownBy w' (some g) := by
  obtain ⟨l, hd, hs⟩ := h
  refine (chanceC g c xs n st W hd (by omega) h1 h2).mono ?_
  rintro e w' ⟨rfl, d, gr⟩
  have q := nextS_pos xs n st
  exact ⟨_, _, rfl, rfl, rfl, ⟨l, d, by omega⟩, gr⟩
theorem sizeZ (g : Nat) (c : Value) (xs : List Int) (st : St) (p m : Int) (W : World) (h : Dz W g c xs st p) (hm0 : 0 ≤ m) (hm1 : m ≤ 2147483648) :
    Calls Try.prog 10 #[.pointer (some ⟨g, 0, none⟩), .int .i64 m] W fun e w' => ∃ k : Int, k = szV xs m ∧ e = .returned (.int .i64 k) ∧ 0 ≤ k ∧ k ≤ m ∧ w' = W := by
  obtain ⟨l, hd, hs⟩ := h
  refine (sizeC g c xs m st W hd hm0 hm1).mono ?_
  rintro e w' ⟨rfl, rfl⟩
  refine ⟨_, rfl, rfl, ?_, ?_, rfl⟩ <;> unfold szV <;> split <;> omega
theorem dz_new {w : World} {v : Value} {xs : List Int} (hrow : Row w .u8 v xs) (hB : Bytes xs) (hl : xs.length ≤ 1048576) :
    Dz (w.alloc (.cells #[v, .int .i64 0, .int .i64 ((xs.length : Int) % 1000)] 53)) w.heap.size v xs (stZ xs) 0 := by
  refine ⟨?_, drw_new hrow hB hl, Int.le_refl 0⟩
  intro b off n cap h0 e
  rcases hrow with ⟨rfl, ao, cap', e'⟩ | ⟨b', off', cap', e', hb, _⟩
  · rw [e] at e'; cases e'; omega
  · rw [e] at e'; cases e'; omega
/-- DrawSendRun: an operation, ahead of its two bends. -/
def k15 : List Int := [1, 1, 3, 3, 4, 4, 4, 4, 5, 5, 6, 6, 2, 7, 8]
def dA (xs : List Int) (k : Int) (a : Nat) (s : St) : SSendOp × Nat × St :=
  if k = 1 then (⟨1, 0, 0, bysV xs (nextS xs 15 s) (nextV xs 15 s).toNat, false⟩, a + (nextV xs 15 s).toNat, bysS xs (nextS xs 15 s) (nextV xs 15 s).toNat)
  else if k = 3 then (⟨3, 0, nextV xs ((a : Int) + 10) s, [], false⟩, a, nextS xs ((a : Int) + 10) s)
  else if k = 4 then (⟨4, 0, 1 + nextV xs 12 s, [], false⟩, a, nextS xs 12 s)
  else if k = 5 ∨ k = 6 then
    if nextV xs 3 (nextS xs ((a : Int) - nextV xs ((a : Int) + 1) s + 2) (nextS xs ((a : Int) + 1) s)) = 2 then (⟨k, nextV xs ((a : Int) + 1) s, max 0 ((a : Int) - nextV xs ((a : Int) + 1) s), [], true⟩, a, nextS xs 3 (nextS xs ((a : Int) - nextV xs ((a : Int) + 1) s + 2) (nextS xs ((a : Int) + 1) s)))
    else (⟨k, nextV xs ((a : Int) + 1) s, nextV xs ((a : Int) - nextV xs ((a : Int) + 1) s + 2) (nextS xs ((a : Int) + 1) s), [], false⟩, a, nextS xs 3 (nextS xs ((a : Int) - nextV xs ((a : Int) + 1) s + 2) (nextS xs ((a : Int) + 1) s)))
  else if nextV xs 3 s = 2 then (⟨k, 0, 0, [], false⟩, a, nextS xs 3 s) else (⟨4, 0, 1500, [], false⟩, a, nextS xs 3 s)
def dB (xs : List Int) (o : SSendOp) (s : St) : SSendOp × St := if nextV xs 40 s = 39 then (⟨o.f0, o.f1, numV xs (nextS xs 40 s), o.f3, o.f4⟩, numS xs (nextS xs 40 s)) else (o, nextS xs 40 s)
def dC (xs : List Int) (o : SSendOp) (s : St) : SSendOp × St := if nextV xs 60 s = 59 then (⟨nextV xs 11 (nextS xs 60 s) - 1, o.f1, o.f2, o.f3, o.f4⟩, nextS xs 11 (nextS xs 60 s)) else (o, nextS xs 60 s)
def dOp (xs : List Int) (a : Nat) (s : St) : SSendOp × Nat × St :=
  let r := dA xs (k15.getD (nextV xs 15 s).toNat 0) a (nextS xs 15 s)
  let t := dB xs r.1 r.2.2
  let u := dC xs t.1 t.2
  (u.1, r.2.1, u.2)
def dLp (xs : List Int) (s0 : St) : Nat → List SSendOp × Nat × St
  | 0 => ([], 0, s0)
  | i + 1 => ((dLp xs s0 i).1 ++ [(dOp xs (dLp xs s0 i).2.1 (dLp xs s0 i).2.2).1], (dOp xs (dLp xs s0 i).2.1 (dLp xs s0 i).2.2).2.1, (dOp xs (dLp xs s0 i).2.1 (dLp xs s0 i).2.2).2.2)
theorem dLp_succ (xs : List Int) (s0 : St) (i : Nat) : dLp xs s0 (i + 1) = ((dLp xs s0 i).1 ++ [(dOp xs (dLp xs s0 i).2.1 (dLp xs s0 i).2.2).1], (dOp xs (dLp xs s0 i).2.1 (dLp xs s0 i).2.2).2.1, (dOp xs (dLp xs s0 i).2.1 (dLp xs s0 i).2.2).2.2) := rfl
theorem dLp_len (xs : List Int) (s0 : St) : ∀ i, (dLp xs s0 i).1.length = i
  | 0 => rfl
  | i + 1 => by rw [dLp_succ, List.length_append, dLp_len xs s0 i]; rfl
/-- How many times the loop goes round. -/
def dN (xs : List Int) : Nat := (nextV xs (szV xs 80 + 1) (stZ xs)).toNat + 1
def dS0 (xs : List Int) : St := nextS xs (szV xs 80 + 1) (stZ xs)
/-- What DrawSendRun draws. -/
def dsr (xs : List Int) : List SSendOp :=
  let r := dLp xs (dS0 xs) (dN xs)
  if nextV xs 30 r.2.2 = 29 then r.1 ++ [⟨1, 0, 0, List.replicate (max 0 (65536 - (r.2.1 : Int) + nextV xs 2 (nextS xs 30 r.2.2))).toNat 0, false⟩, ⟨3, 0, 4611686018427387903, [], false⟩, ⟨4, 0, 1500, [], false⟩] else r.1
theorem k15_ok (i : Int) (h0 : 0 ≤ i) (h1 : i < 15) : ∃ k : Int, k15.getD i.toNat 0 = k ∧ (k = 1 ∨ k = 2 ∨ k = 3 ∨ k = 4 ∨ k = 5 ∨ k = 6 ∨ k = 7 ∨ k = 8) := by
  refine ⟨_, rfl, ?_⟩
  obtain ⟨n, rfl⟩ := Int.eq_ofNat_of_zero_le h0
  have hn : n < 15 := by omega
  match n, hn with
  | 0, _ => decide
  | 1, _ => decide
  | 2, _ => decide
  | 3, _ => decide
  | 4, _ => decide
  | 5, _ => decide
  | 6, _ => decide
  | 7, _ => decide
  | 8, _ => decide
  | 9, _ => decide
  | 10, _ => decide
  | 11, _ => decide
  | 12, _ => decide
  | 13, _ => decide
  | 14, _ => decide
theorem dA_at (xs : List Int) (k : Int) (a : Nat) (s : St) : a ≤ (dA xs k a s).2.1 ∧ (dA xs k a s).2.1 ≤ a + 14 := by
  have := nextV_bd xs 15 s (by decide)
  unfold dA
  split
  · exact ⟨by show a ≤ a + _; omega, by show a + _ ≤ a + 14; omega⟩
  split
  · exact ⟨Nat.le_refl _, by show a ≤ _; omega⟩
  split
  · exact ⟨Nat.le_refl _, by show a ≤ _; omega⟩
  split
  · split <;> exact ⟨Nat.le_refl _, by show a ≤ _; omega⟩
  · split <;> exact ⟨Nat.le_refl _, by show a ≤ _; omega⟩
theorem dLp_at (xs : List Int) (s0 : St) : ∀ i, (dLp xs s0 i).2.1 ≤ 14 * i
  | 0 => Nat.le_refl _
  | i + 1 => by
    rw [dLp_succ]
    have h1 := dLp_at xs s0 i
    have h2 := (dA_at xs (k15.getD (nextV xs 15 (dLp xs s0 i).2.2).toNat 0) (dLp xs s0 i).2.1 (nextS xs 15 (dLp xs s0 i).2.2)).2
    show (dA xs (k15.getD (nextV xs 15 (dLp xs s0 i).2.2).toNat 0) (dLp xs s0 i).2.1 (nextS xs 15 (dLp xs s0 i).2.2)).2.1 ≤ _
    omega
theorem dN_le (xs : List Int) : 1 ≤ dN xs ∧ dN xs ≤ 81 := by
  have h0 : 0 ≤ szV xs 80 ∧ szV xs 80 ≤ 80 := by unfold szV; split <;> omega
  have := nextV_bd xs (szV xs 80 + 1) (stZ xs) (by omega)
  unfold dN
  omega
end Go.Proofs.Ytdoglkjhmaiknaa

namespace Go.Proofs.Ytdoglkjhmaiknaa
open Go.RowKit
set_option linter.unusedVariables false

/-- Every row has K cells, each of one cell. -/
def FlatK (K : Nat) (L : List (List Value)) : Prop := ∀ x ∈ L, x.length = K ∧ ∀ v ∈ x, v.oneCell' = true
theorem FlatK.nil (K : Nat) : FlatK K [] := fun x hx => by cases hx
theorem FlatK.append {K : Nat} {A B : List (List Value)} (a : FlatK K A) (b : FlatK K B) : FlatK K (A ++ B) := fun x hx => by
  rcases List.mem_append.1 hx with h | h
  · exact a x h
  · exact b x h
theorem flat_len {K : Nat} : ∀ {L : List (List Value)}, FlatK K L → L.flatten.length = L.length * K
  | [], _ => by simp
  | x :: r, h => by
    have h1 := (h x (List.mem_cons_self ..)).1
    have h2 := flat_len (K := K) (L := r) (fun y hy => h y (List.mem_cons_of_mem _ hy))
    simp only [List.flatten_cons, List.length_append, List.length_cons, h1, h2, Nat.add_mul, Nat.one_mul]
    omega
theorem flat_get {K : Nat} : ∀ {L : List (List Value)}, FlatK K L → ∀ (j f : Nat), j < L.length → f < K → L.flatten[j * K + f]? = (L.getD j [])[f]?
  | [], _, j, f, hj, _ => by simp at hj
  | x :: r, h, 0, f, hj, hf => by
    have h1 := (h x (List.mem_cons_self ..)).1
    simp only [List.flatten_cons, Nat.zero_mul, Nat.zero_add]
    rw [List.getElem?_append_left (by omega)]
    rfl
  | x :: r, h, j + 1, f, hj, hf => by
    have h1 := (h x (List.mem_cons_self ..)).1
    have h2 := flat_get (K := K) (L := r) (fun y hy => h y (List.mem_cons_of_mem _ hy)) j f (by simpa using hj) hf
    simp only [List.flatten_cons]
    rw [List.getElem?_append_right (by rw [h1, Nat.add_mul, Nat.one_mul]; omega), h1, show (j + 1) * K + f - K = j * K + f by rw [Nat.add_mul, Nat.one_mul]; omega, h2]
    rfl
theorem flat_one {K : Nat} {L : List (List Value)} (h : FlatK K L) : ∀ v ∈ L.flatten, v.oneCell' = true := by
  intro v hv
  obtain ⟨x, hx, hvx⟩ := List.mem_flatten.1 hv
  exact (h x hx).2 v hvx
theorem flat_split {K n i : Nat} (hK : 0 < K) (hi : i < n * K) : ∃ j f, i = j * K + f ∧ j < n ∧ f < K :=
  ⟨i / K, i % K, by rw [Nat.mul_comm]; exact (Nat.div_add_mod i K).symm, (Nat.div_lt_iff_lt_mul hK).2 hi, Nat.mod_lt _ hK⟩
theorem flat_of {K : Nat} (hK : 0 < K) {L : List (List Value)} (h : FlatK K L) (zs : List Value) (hl : zs.length = L.length * K) (hz : ∀ j, j < L.length → ∀ f, f < K → zs[j * K + f]? = (L.getD j [])[f]?) : zs = L.flatten := by
  apply List.ext_getElem?
  intro i
  by_cases hi : i < L.length * K
  · obtain ⟨j, f, rfl, hj, hf⟩ := flat_split hK hi
    rw [hz j hj f hf, flat_get h j f hj hf]
  · rw [List.getElem?_eq_none (by omega), List.getElem?_eq_none (by rw [flat_len h]; omega)]
theorem GOwns.flat {T : TypeId} {K : Nat} (hK : 0 < K) {w : World} {base : Nat} {v : Value} {L : List (List Value)} (hL : FlatK K L) (h : GOwns T K w base v L) : w.ownsRow base T K v L.length L.flatten := by
  obtain ⟨zs, ho, hz⟩ := h
  rw [← flat_of hK hL zs ho.1 hz]
  exact ho
theorem GOwns.ofFlat {T : TypeId} {K : Nat} {w : World} {base : Nat} {v : Value} {L : List (List Value)} (hL : FlatK K L) (h : w.ownsRow base T K v L.length L.flatten) : GOwns T K w base v L :=
  ⟨L.flatten, h, fun j hj f hf => flat_get hL j f hj hf⟩
theorem flat_read {K : Nat} (hK : 0 < K) {w : World} {b off : Nat} {S : List (List Value)} (hS : FlatK K S) (hc : ∀ j, j < S.length → ∀ f, f < K → w.cell? ⟨b, off + (j * K + f), none⟩ = (S.getD j [])[f]?) (j : Nat) (u : Value) (hj : S.flatten[j]? = some u) : w.cell? ((⟨b, off, none⟩ : Addr).add j) = some u := by
  have hl : j < S.length * K := by
    have := (List.getElem?_eq_some_iff.1 hj).1
    rw [flat_len hS] at this
    exact this
  have hadd : (⟨b, off, none⟩ : Addr).add j = ⟨b, off + j, none⟩ := by unfold Addr.add; split <;> simp_all
  rw [hadd]
  obtain ⟨q, f, rfl, hq, hf⟩ := flat_split hK hl
  rw [flat_get hS q f hq hf] at hj
  rw [← hj]
  exact hc q hq f hf
set_option maxRecDepth 20000 in
theorem run_append_flat {w : World} (tA ty T : TypeId) (htA : Try.prog.underlying tA = some (.slice T)) (i0 : TypeInfo) (z : Value) (K B : Nat) (hi : Try.prog.info? T = some i0) (hz0 : i0.zero = some z) (hz1 : i0.size = K) (hz2 : i0.bytes = B) (hzc : z.cells.size = K) (hK : 0 < K) (hB : B ≤ 128)
    (base : Nat) (v : Value) (R : List (List Value)) (hR : FlatK K R) (hown : GOwns T K w base v R) (v2 : Value) (S : List (List Value)) (hS : FlatK K S) (hrow : GRow K w v2 S) (h63 : R.length + S.length ≤ 1099511627776) (hbase : base ≤ w.heap.size) :
    ∃ v' w', (Builtin.append_ #[tA, tA] ty #[v, v2]).run Try.prog w = .ok v' w' ∧ GOwns T K w' base v' (R ++ S) ∧ w.grownBy w' v.ownBlock := by
  by_cases h0 : 0 < S.length
  · obtain ⟨b, off, cap, rfl, hb, hc⟩ := hrow.at' h0
    obtain ⟨v', w', hr, ho', hg, _⟩ := run_append_own (P := Try.prog) w base tA ty T i0 z K B htA hi hz0 hz1 hz2 hzc hK v R.length R.flatten (hown.flat hK hR) ⟨b, off, none⟩ S.length cap S.flatten (flat_len hS) (fun j u hj => flat_read hK hS hc j u hj) (flat_one hS) (by unfold maxLen; omega) (Nat.le_trans (Nat.mul_le_mul h63 hB) (by decide)) hbase
    refine ⟨v', w', hr, GOwns.ofFlat (hR.append hS) ?_, hg⟩
    rw [List.flatten_append, List.length_append]
    exact ho'
  · have hn : S = [] := List.eq_nil_of_length_eq_zero (by omega)
    subst hn
    obtain ⟨ao, cap, rfl⟩ := hrow.form
    exact ⟨v, w, run_append_owned_zero (P := Try.prog) (w := w) base tA ty T i0 K htA hi v R.length R.flatten ao cap (hown.flat hK hR), by simpa using hown, ⟨rfl, rfl, rfl, Nat.le_refl _, fun _ _ _ => rfl⟩⟩
theorem wpList_append_flat {w : World} {ops : Array Oper} {rest : List Oper} {o : Oper} {a : Act} {Q : Exit → Act → World → Prop} (hgd : o.guard = none) (p q : Operand) (tA T : TypeId) (htA : Try.prog.underlying tA = some (.slice T)) (z : Value) (K B : Nat) (hinfo : (Try.prog.info? T).map (fun i => (i.zero, i.size, i.bytes)) = some (some z, K, B)) (hzc : z.cells.size = K) (hK : 0 < K) (hB : B ≤ 128)
    (ho : o.op = .call { callee := .builtin .append, args := #[p, q], argTypes := #[tA, tA] })
    (base : Nat) (v : Value) (R : List (List Value)) (hR : FlatK K R) (hp : a.eval p = v) (hown : GOwns T K w base v R) (v2 : Value) (S : List (List Value)) (hS : FlatK K S) (hq : a.eval q = v2) (hrow : GRow K w v2 S) (h63 : R.length + S.length ≤ 1099511627776) (hbase : base ≤ w.heap.size)
    (h : ∀ v' w', GOwns T K w' base v' (R ++ S) → w.grownBy w' v.ownBlock → wpList Try.prog ops Q rest (a.put o.dst v') w') :
    wpList Try.prog ops Q (o :: rest) a w := by
  obtain ⟨i0, hi, hz0, hz1, hz2⟩ := info_parts hinfo
  obtain ⟨v', w', hr, h2, h3⟩ := run_append_flat tA o.type T htA i0 z K B hi hz0 hz1 hz2 hzc hK hB base v R hR hown v2 S hS hrow h63 hbase
  refine wpList_plain hgd fun K hK => ?_
  unfold Oper.wp
  simp [execOp, ho, resolve, invoke, builtin, hp, hq, hr, Result.andThen]
  exact hK _ _ (h v' w' h2 h3)
theorem step_append_flat {w : World} {ops : Array Oper} {o : Oper} {a : Act} {KK : Act → World → Prop} {Q : Exit → Act → World → Prop} {E : Prop} (hgd : o.guard = none) (p q : Operand) (tA T : TypeId) (htA : Try.prog.underlying tA = some (.slice T)) (z : Value) (K B : Nat) (hinfo : (Try.prog.info? T).map (fun i => (i.zero, i.size, i.bytes)) = some (some z, K, B)) (hzc : z.cells.size = K) (hK : 0 < K) (hB : B ≤ 128)
    (ho : o.op = .call { callee := .builtin .append, args := #[p, q], argTypes := #[tA, tA] })
    (base : Nat) (v : Value) (R : List (List Value)) (hR : FlatK K R) (hp : a.eval p = v) (hown : GOwns T K w base v R) (v2 : Value) (S : List (List Value)) (hS : FlatK K S) (hq : a.eval q = v2) (hrow : GRow K w v2 S) (h63 : R.length + S.length ≤ 1099511627776) (hbase : base ≤ w.heap.size)
    (h : ∀ v' w', GOwns T K w' base v' (R ++ S) → w.grownBy w' v.ownBlock → KK (a.put o.dst v') w') :
    if Region.wanted o (yielded ops a.tmps) = true then Oper.wp Try.prog o a w KK Q else E := by
  have hw : Region.wanted o (yielded ops a.tmps) = true := by simp [Region.wanted, hgd]
  rw [if_pos hw]
  obtain ⟨i0, hi, hz0, hz1, hz2⟩ := info_parts hinfo
  obtain ⟨v', w', hr, h2, h3⟩ := run_append_flat tA o.type T htA i0 z K B hi hz0 hz1 hz2 hzc hK hB base v R hR hown v2 S hS hrow h63 hbase
  unfold Oper.wp
  simp [execOp, ho, resolve, invoke, builtin, hp, hq, hr, Result.andThen]
  exact h v' w' h2 h3
/-- A literal of one struct, in a world that has just made it. -/
theorem lit_flat (w : World) (cs : List Value) (T : TypeId) : GRow cs.length (w.alloc (.cells cs.toArray T)) (.slice (some ⟨w.heap.size, 0, none⟩) 1 1) [cs] := by
  refine Or.inr ⟨w.heap.size, 0, 1, rfl, by simp, fun j hj f hf => ?_⟩
  obtain rfl : j = 0 := by simpa using hj
  have k := heap_alloc_new w (.cells cs.toArray T)
  rw [Nat.zero_mul, Nat.zero_add, Nat.zero_add, bk_cell k f]
  simp
theorem GOwns.lit0 (T : TypeId) (K : Nat) (w : World) (base : Nat) (hb : base ≤ w.heap.size) : GOwns T K (w.alloc (.cells #[] T)) base (.slice (some ⟨w.heap.size, 0, none⟩) 0 0) [] :=
  ⟨[], World.ownsRow_lit w #[] 0 hb (by decide) (show (#[] : Array Value).size = 0 * K by simp), fun j hj => by simp at hj⟩
end Go.Proofs.Ytdoglkjhmaiknaa

namespace Go.Proofs.Ytdoglkjhmaiknaa
open Go.RowKit
set_option linter.unusedVariables false

/-- Blocks that stay: those below base, and those that are none of S and hold no T. -/
structure ChS (S : Nat → Prop) (T : TypeId) (base : Nat) (w w' : World) : Prop where
  os : w'.os = w.os
  tape : w'.tape = w.tape
  output : w'.output = w.output
  size : w.heap.size ≤ w'.heap.size
  block : ∀ k, k < w.heap.size → (k < base ∨ (¬ S k ∧ ∀ c fr, w.heap[k]? ≠ some (.cells c T fr))) → w'.heap[k]? = w.heap[k]?
section
variable {S : Nat → Prop} {T : TypeId} {base : Nat} {w w1 w2 w' : World}
theorem ChS.refl (S : Nat → Prop) (T : TypeId) (base : Nat) (w : World) : ChS S T base w w := ⟨rfl, rfl, rfl, Nat.le_refl _, fun _ _ _ => rfl⟩
theorem ChS.trans (h : ChS S T base w w1) (k : ChS S T base w1 w2) : ChS S T base w w2 :=
  ⟨k.os.trans h.os, k.tape.trans h.tape, k.output.trans h.output, Nat.le_trans h.size k.size, fun i hi hs => by
    have e := h.block i hi hs
    exact (k.block i (Nat.lt_of_lt_of_le hi h.size) (by rw [e]; exact hs)).trans e⟩
theorem ChS.of_below (h : Below w.heap.size w w') : ChS S T base w w' := ⟨h.os, h.tape, h.output, h.size, fun k hk _ => h.block k hk⟩
theorem ChS.of_eq (h : w' = w) : ChS S T base w w' := h ▸ ChS.refl S T base w
theorem ChS.toBelow (h : ChS S T base w w') (hb : base ≤ w.heap.size) : Below base w w' := ⟨h.os, h.tape, h.output, h.size, fun k hk => h.block k (by omega) (Or.inl hk)⟩
theorem ChS.drewN (h : ChS S T base w w1) (n : Nat) : ChS S T base w (w1.drewN n) := ⟨h.os, h.tape, h.output, h.size, h.block⟩
theorem ChS.drew (h : ChS S T base w w1) : ChS S T base w w1.drew := ⟨h.os, h.tape, h.output, h.size, h.block⟩
theorem ChS.alloc (h : ChS S T base w w1) (o : Obj) : ChS S T base w (w1.alloc o) :=
  h.trans (ChS.of_below ((Below.refl _ _).alloc (Nat.le_refl _) o))
theorem setCell_size (w : World) (p : Addr) (v : Value) : (w.setCell p v).heap.size = w.heap.size := by simp [World.setCell]
/-- A store into a block that was not there at first. -/
theorem ChS.setN (h : ChS S T base w w1) {k : Nat} (hk : w.heap.size ≤ k) (o : Nat) (v : Value) : ChS S T base w (w1.setCell ⟨k, o, none⟩ v) :=
  ⟨h.os, h.tape, h.output, by rw [setCell_size]; exact h.size, fun i hi hs => (bk_other (by omega) o v).trans (h.block i hi hs)⟩
/-- A store into a block of S. -/
theorem ChS.setS (h : ChS S T base w w1) {k : Nat} (hk : S k) (hb : base ≤ k) (o : Nat) (v : Value) : ChS S T base w (w1.setCell ⟨k, o, none⟩ v) :=
  ⟨h.os, h.tape, h.output, by rw [setCell_size]; exact h.size, fun i hi hs => (bk_other (fun e => by
    subst e
    rcases hs with hs | hs
    · omega
    · exact hs.1 hk) o v).trans (h.block i hi hs)⟩
theorem ChS.mono {S' : Nat → Prop} (h : ChS S T base w w1) (hs : ∀ k, S k → S' k) : ChS S' T base w w1 :=
  ⟨h.os, h.tape, h.output, h.size, fun i hi ho => h.block i hi (ho.imp id (fun x => ⟨fun e => x.1 (hs i e), x.2⟩))⟩
theorem ChS.of_grown {r : Option Nat} (g : w.grownBy w' r) (hr : ∀ k, r = some k → base ≤ k ∧ ∃ c fr, w.heap[k]? = some (.cells c T fr)) : ChS S T base w w' :=
  ⟨g.os, g.tape, g.output, g.size, fun i hi hs => g.block i hi (fun e => by
    obtain ⟨h1, c, fr, h2⟩ := hr i e.symm
    rcases hs with hs | hs
    · omega
    · exact hs.2 c fr h2)⟩
/-- What lies in a block of another type stays. -/
theorem ChS.bk (h : ChS S T base w w') {g : Nat} {c : Array Value} {t : TypeId} {fr : Nat × Nat} (hb : w.heap[g]? = some (.cells c t fr)) (hn : g < base ∨ (¬ S g ∧ t ≠ T)) : w'.heap[g]? = some (.cells c t fr) :=
  (h.block g (Array.getElem?_eq_some_iff.1 hb).1 (hn.imp id (fun x => ⟨x.1, fun c' fr' e => by rw [hb] at e; exact x.2 (by have e2 := Option.some.inj e; injection e2)⟩))).trans hb
end
theorem heap_setCells (b : Nat) (T : TypeId) (fr : Nat × Nat) : ∀ (vs : List Value) (o : Nat) (w : World) (cur : Array Value), w.heap[b]? = some (.cells cur T fr) → ∃ cur' : Array Value, (w.setCells b o vs).heap[b]? = some (.cells cur' T fr) ∧ cur'.size = cur.size ∧ ∀ i, i < cur.size → cur'[i]? = if o ≤ i ∧ i < o + vs.length then vs[i - o]? else cur[i]?
  | [], o, w, cur, h => ⟨cur, h, rfl, fun i hi => by rw [if_neg (by simp only [List.length_nil]; omega)]⟩
  | v :: r, o, w, cur, h => by
    obtain ⟨cur', h1, h2, h3⟩ := heap_setCells b T fr r (o + 1) (w.setCell ⟨b, o, none⟩ v) _ (bk_set h o v)
    refine ⟨cur', h1, by rw [h2]; simp, fun i hi => ?_⟩
    rw [h3 i (by simpa using hi)]
    by_cases e : i = o
    · subst e
      rw [if_neg (by omega), if_pos (by simp), Nat.sub_self]
      simp [hi]
    · by_cases c : o + 1 ≤ i ∧ i < o + 1 + r.length
      · rw [if_pos c, if_pos ⟨by omega, by simp only [List.length_cons]; omega⟩, show i - o = (i - (o + 1)) + 1 by omega]
        rfl
      · rw [if_neg c, if_neg (by simp only [List.length_cons]; omega), Array.getElem?_setIfInBounds, if_neg (fun q => e q.symm)]
theorem setCells_size (b : Nat) : ∀ (vs : List Value) (o : Nat) (w : World), (w.setCells b o vs).heap.size = w.heap.size
  | [], _, _ => rfl
  | v :: r, o, w => (setCells_size b r (o + 1) _).trans (setCell_size w _ v)
theorem grown_setCells (b : Nat) : ∀ (vs : List Value) (o : Nat) (w : World), w.grownBy (w.setCells b o vs) (some b)
  | [], o, w => ⟨rfl, rfl, rfl, Nat.le_refl _, fun _ _ _ => rfl⟩
  | v :: r, o, w => by
    have g := grown_setCells b r (o + 1) (w.setCell ⟨b, o, none⟩ v)
    exact ⟨g.os, g.tape, g.output, by rw [setCells_size]; exact Nat.le_refl _, fun k hk hn => (g.block k (by rw [setCell_size]; exact hk) hn).trans (bk_other (fun e => hn (by rw [e])) o v)⟩
/-- A row of structs of K cells, of one's own, which may begin amid its block. -/
def OffR (T : TypeId) (K : Nat) (w : World) (base : Nat) (v : Value) (L : List (List Value)) : Prop :=
  (v = .slice none 0 0 ∧ L = []) ∨ ∃ g o cap cur, v = .slice (some ⟨g, o, none⟩) L.length cap ∧ base ≤ g ∧ w.heap[g]? = some (.cells cur T (0, 0)) ∧ L.length ≤ cap ∧ cap ≤ maxLen ∧ cur.size = o + cap * K ∧ ∀ j f, j < L.length → f < K → cur[o + (j * K + f)]? = (L.getD j [])[f]?
section
variable {T : TypeId} {K : Nat} {w w' : World} {base : Nat} {v : Value} {L : List (List Value)}
theorem OffR.nil (T : TypeId) (K : Nat) (w : World) (base : Nat) : OffR T K w base (.slice none 0 0) [] := Or.inl ⟨rfl, rfl⟩
theorem OffR.form (h : OffR T K w base v L) : ∃ ao cap, v = .slice ao L.length cap := by
  rcases h with ⟨rfl, rfl⟩ | ⟨g, o, cap, cur, rfl, _⟩
  · exact ⟨none, 0, rfl⟩
  · exact ⟨_, _, rfl⟩
theorem OffR.row (h : OffR T K w base v L) : GRow K w v L := by
  rcases h with ⟨rfl, rfl⟩ | ⟨g, o, cap, cur, rfl, h1, h2, h3, h4, h5, h6⟩
  · exact Or.inl ⟨rfl, none, 0, rfl⟩
  · exact Or.inr ⟨g, o, cap, rfl, (Array.getElem?_eq_some_iff.1 h2).1, fun j hj f hf => by rw [bk_cell h2]; exact h6 j f hj hf⟩
theorem OffR.of_owns (hK : 0 < K) (hL : FlatK K L) (h : w.ownsRow base T K v L.length L.flatten) : OffR T K w base v L := by
  rcases h.2 with ⟨rfl, h0⟩ | ⟨g, cap, cur, rfl, hg, hh, hnc, hcm, hcs, ht⟩
  · exact Or.inl ⟨rfl, List.eq_nil_of_length_eq_zero h0⟩
  · refine Or.inr ⟨g, 0, cap, cur, rfl, hg, hh, hnc, hcm, by omega, fun j f hj hf => ?_⟩
    rw [← flat_get hL j f hj hf, ← ht, List.getElem?_take, if_pos (jK_lt hj hf), Nat.zero_add]
    simp
theorem OffR.chg {S : Nat → Prop} {T' : TypeId} {b' : Nat} (h : OffR T K w base v L) (hc : ChS S T' b' w w') (hs : ∀ g, v.ownBlock = some g → (∃ c fr, w.heap[g]? = some (.cells c T fr)) → g < b' ∨ (¬ S g ∧ T ≠ T')) : OffR T K w' base v L := by
  rcases h with h | ⟨g, o, cap, cur, rfl, h1, h2, r⟩
  · exact Or.inl h
  · exact Or.inr ⟨g, o, cap, cur, rfl, h1, hc.bk h2 (hs g rfl ⟨_, _, h2⟩), r⟩
theorem OffR.below (h : OffR T K w base v L) (hb : Below w.heap.size w w') : OffR T K w' base v L := by
  rcases h with h | ⟨g, o, cap, cur, rfl, h1, h2, r⟩
  · exact Or.inl h
  · exact Or.inr ⟨g, o, cap, cur, rfl, h1, (hb.block g (Array.getElem?_eq_some_iff.1 h2).1).trans h2, r⟩
theorem OffR.mono {base' : Nat} (h : OffR T K w base v L) (hb : base' ≤ base) : OffR T K w base' v L := by
  rcases h with h | ⟨g, o, cap, cur, rfl, h1, r⟩
  · exact Or.inl h
  · exact Or.inr ⟨g, o, cap, cur, rfl, Nat.le_trans hb h1, r⟩
theorem OffR.set {t : TypeId} {g' i : Nat} {u : Value} {c : Array Value} {fr : Nat × Nat} (h : OffR T K w base v L) (hb : w.heap[g']? = some (.cells c t fr)) (hne : t ≠ T) : OffR T K (w.setCell ⟨g', i, none⟩ u) base v L := by
  rcases h with h | ⟨g, o, cap, cur, rfl, h1, h2, r⟩
  · exact Or.inl h
  · refine Or.inr ⟨g, o, cap, cur, rfl, h1, (bk_other (fun e => ?_) i u).trans h2, r⟩
    subst e
    rw [hb] at h2
    have e2 := Option.some.inj h2
    injection e2 with _ e3
    exact hne e3
theorem OffR.new {k i : Nat} {u : Value} (h : OffR T K w base v L) (hk : w.heap.size ≤ k) : OffR T K (w.setCell ⟨k, i, none⟩ u) base v L := by
  rcases h with h | ⟨g, o, cap, cur, rfl, h1, h2, r⟩
  · exact Or.inl h
  · exact Or.inr ⟨g, o, cap, cur, rfl, h1, (bk_other (by have := (Array.getElem?_eq_some_iff.1 h2).1; omega) i u).trans h2, r⟩
/-- All but the first. -/
theorem OffR.tail {ao : Option Addr} {n cap : Nat} {x : List Value} (h : OffR T K w base (.slice ao n cap) (x :: L)) (hc : 1 < cap) : ∃ g o, ao = some ⟨g, o, none⟩ ∧ n = L.length + 1 ∧ OffR T K w base (.slice (some ⟨g, o + K, none⟩) L.length (cap - 1)) L := by
  rcases h with ⟨h, h0⟩ | ⟨g, o, cap', cur, e, h1, h2, h3, h4, h5, h6⟩
  · exact absurd h0 (by simp)
  · simp only [Value.slice.injEq, List.length_cons] at e
    obtain ⟨rfl, rfl, rfl⟩ := e
    refine ⟨g, o, rfl, rfl, Or.inr ⟨g, o + K, cap - 1, cur, rfl, h1, h2, by simp only [List.length_cons] at h3; omega, by omega, ?_, fun j f hj hf => ?_⟩⟩
    · rw [h5, Nat.sub_mul, Nat.one_mul]
      have : K ≤ cap * K := Nat.le_mul_of_pos_left K (by omega)
      omega
    · have t := h6 (j + 1) f (by simp only [List.length_cons]; omega) hf
      rw [Nat.add_mul, Nat.one_mul] at t
      rw [show o + K + (j * K + f) = o + (j * K + K + f) by omega, t]
      rfl
end
set_option maxRecDepth 20000 in
/-- An append onto it. -/
theorem run_append_off {w : World} (tA ty T : TypeId) (htA : Try.prog.underlying tA = some (.slice T)) (i0 : TypeInfo) (z : Value) (K B : Nat) (hi : Try.prog.info? T = some i0) (hz0 : i0.zero = some z) (hz1 : i0.size = K) (hz2 : i0.bytes = B) (hzc : z.cells.size = K) (hK : 0 < K) (hB : B ≤ 128)
    (base : Nat) (v : Value) (R : List (List Value)) (hR : FlatK K R) (hown : OffR T K w base v R) (v2 : Value) (S : List (List Value)) (hS : FlatK K S) (hrow : GRow K w v2 S) (h0 : 0 < S.length) (h63 : R.length + S.length ≤ 1099511627776) (hbase : base ≤ w.heap.size) :
    ∃ v' w', (Builtin.append_ #[tA, tA] ty #[v, v2]).run Try.prog w = .ok v' w' ∧ OffR T K w' base v' (R ++ S) ∧ ∀ S', ChS S' T base w w' := by
  obtain ⟨b, off, cap, rfl, hb, hc⟩ := hrow.at' h0
  have hbt : (R.length + S.length) * B ≤ 140737488355328 := Nat.le_trans (Nat.mul_le_mul h63 hB) (by decide)
  have hm : R.length + S.length ≤ maxLen := by unfold maxLen; omega
  rcases hown with ⟨rfl, rfl⟩ | ⟨g, o, cp, cur, rfl, h1, h2, h3, h4, h5, h6⟩
  · obtain ⟨v', w', hr, ho', hg, _⟩ := run_append_own (P := Try.prog) w base tA ty T i0 z K B htA hi hz0 hz1 hz2 hzc hK (.slice none 0 0) 0 [] (World.ownsRow_nil _ _ _ _) ⟨b, off, none⟩ S.length cap S.flatten (flat_len hS) (fun j u hj => flat_read hK hS hc j u hj) (flat_one hS) (by simpa using hm) (by simpa using hbt) hbase
    refine ⟨v', w', hr, OffR.of_owns hK (by simpa using hS) (by simpa using ho'), fun S' => ChS.of_grown hg (fun k hk => by cases hk)⟩
  · by_cases hroom : R.length + S.length ≤ cp
    · have hfit : o + R.length * K + S.flatten.length ≤ cur.size := by
        rw [flat_len hS, h5, Nat.add_assoc, ← Nat.add_mul]
        exact Nat.add_le_add_left (Nat.mul_le_mul_right _ hroom) _
      have hr := run_append_room_cells (P := Try.prog) w tA ty T i0 htA hi g o R.length cp ⟨b, off, none⟩ S.length cap S.flatten (by rw [hz1]; exact flat_len hS) (fun j u hj => flat_read hK hS hc j u hj) (flat_one hS) hroom
        (fun j hj => by rw [bk_cell h2, hz1, Array.getElem?_eq_getElem (by omega)]; rfl) (fun j hj => bk_free h2 _)
      rw [hz1] at hr
      obtain ⟨cur', q1, q2, q3⟩ := heap_setCells g T (0, 0) S.flatten (o + R.length * K) w cur h2
      refine ⟨_, _, hr, Or.inr ⟨g, o, cp, cur', by rw [List.length_append], h1, q1, by rw [List.length_append]; exact hroom, h4, by rw [q2, h5], fun j f hj hf => ?_⟩, fun S' => ChS.of_grown (grown_setCells g _ _ w) (fun k hk => ?_)⟩
      · rw [List.length_append] at hj
        have hlt : o + (j * K + f) < cur.size := by
          rw [h5]
          have := jK_lt (K := K) (show j < cp by omega) hf
          omega
        rw [q3 _ hlt]
        by_cases c : j < R.length
        · have := jK_lt (K := K) c hf
          rw [if_neg (by omega), h6 j f c hf]
          simp [List.getD, List.getElem?_append_left c]
        · have e1 : R.length * K ≤ j * K := Nat.mul_le_mul_right _ (by omega)
          have e2 : (j - R.length) * K = j * K - R.length * K := Nat.sub_mul _ _ _
          have e3 := jK_lt (K := K) (show j - R.length < S.length by omega) hf
          rw [← flat_len hS] at e3
          rw [if_pos ⟨by omega, by omega⟩, show o + (j * K + f) - (o + R.length * K) = (j - R.length) * K + f by omega, flat_get hS _ f (by omega) hf]
          simp [List.getD, List.getElem?_append_right (show R.length ≤ j by omega)]
      · obtain rfl : g = k := Option.some.inj hk
        exact ⟨h1, _, _, h2⟩
    · obtain ⟨v', w', hr, ho', hg⟩ := run_append_arg_grows (P := Try.prog) w tA ty T i0 z K B htA hi hz0 hz1 hz2 hzc hK ⟨g, o, none⟩ R.length cp R.flatten (flat_len hR)
        (fun j u hj => flat_read hK hR (b := g) (off := o) (fun j hj f hf => by rw [bk_cell h2]; exact h6 j f hj hf) j u hj) ⟨b, off, none⟩ S.length cap S.flatten (flat_len hS) (fun j u hj => flat_read hK hS hc j u hj) (by omega) hm hbt
      refine ⟨v', w', hr, (OffR.of_owns hK (hR.append hS) (by rw [List.flatten_append, List.length_append]; exact ho')).mono hbase, fun S' => ChS.of_grown hg (fun k hk => by cases hk)⟩
theorem wpList_append_off {w : World} {ops : Array Oper} {rest : List Oper} {o : Oper} {a : Act} {Q : Exit → Act → World → Prop} (hgd : o.guard = none) (p q : Operand) (tA T : TypeId) (htA : Try.prog.underlying tA = some (.slice T)) (z : Value) (K B : Nat) (hinfo : (Try.prog.info? T).map (fun i => (i.zero, i.size, i.bytes)) = some (some z, K, B)) (hzc : z.cells.size = K) (hK : 0 < K) (hB : B ≤ 128)
    (ho : o.op = .call { callee := .builtin .append, args := #[p, q], argTypes := #[tA, tA] })
    (base : Nat) (v : Value) (R : List (List Value)) (hR : FlatK K R) (hp : a.eval p = v) (hown : OffR T K w base v R) (v2 : Value) (S : List (List Value)) (hS : FlatK K S) (hq : a.eval q = v2) (hrow : GRow K w v2 S) (h0 : 0 < S.length) (h63 : R.length + S.length ≤ 1099511627776) (hbase : base ≤ w.heap.size)
    (h : ∀ v' w', OffR T K w' base v' (R ++ S) → (∀ S', ChS S' T base w w') → wpList Try.prog ops Q rest (a.put o.dst v') w') :
    wpList Try.prog ops Q (o :: rest) a w := by
  obtain ⟨i0, hi, hz0, hz1, hz2⟩ := info_parts hinfo
  obtain ⟨v', w', hr, h2, h3⟩ := run_append_off tA o.type T htA i0 z K B hi hz0 hz1 hz2 hzc hK hB base v R hR hown v2 S hS hrow h0 h63 hbase
  refine wpList_plain hgd fun K hK => ?_
  unfold Oper.wp
  simp [execOp, ho, resolve, invoke, builtin, hp, hq, hr, Result.andThen]
  exact hK _ _ (h v' w' h2 h3)
theorem step_append_off {w : World} {ops : Array Oper} {o : Oper} {a : Act} {KK : Act → World → Prop} {Q : Exit → Act → World → Prop} {E : Prop} (hgd : o.guard = none) (p q : Operand) (tA T : TypeId) (htA : Try.prog.underlying tA = some (.slice T)) (z : Value) (K B : Nat) (hinfo : (Try.prog.info? T).map (fun i => (i.zero, i.size, i.bytes)) = some (some z, K, B)) (hzc : z.cells.size = K) (hK : 0 < K) (hB : B ≤ 128)
    (ho : o.op = .call { callee := .builtin .append, args := #[p, q], argTypes := #[tA, tA] })
    (base : Nat) (v : Value) (R : List (List Value)) (hR : FlatK K R) (hp : a.eval p = v) (hown : OffR T K w base v R) (v2 : Value) (S : List (List Value)) (hS : FlatK K S) (hq : a.eval q = v2) (hrow : GRow K w v2 S) (h0 : 0 < S.length) (h63 : R.length + S.length ≤ 1099511627776) (hbase : base ≤ w.heap.size)
    (h : ∀ v' w', OffR T K w' base v' (R ++ S) → (∀ S', ChS S' T base w w') → KK (a.put o.dst v') w') :
    if Region.wanted o (yielded ops a.tmps) = true then Oper.wp Try.prog o a w KK Q else E := by
  have hw : Region.wanted o (yielded ops a.tmps) = true := by simp [Region.wanted, hgd]
  rw [if_pos hw]
  obtain ⟨i0, hi, hz0, hz1, hz2⟩ := info_parts hinfo
  obtain ⟨v', w', hr, h2, h3⟩ := run_append_off tA o.type T htA i0 z K B hi hz0 hz1 hz2 hzc hK hB base v R hR hown v2 S hS hrow h0 h63 hbase
  unfold Oper.wp
  simp [execOp, ho, resolve, invoke, builtin, hp, hq, hr, Result.andThen]
  exact h v' w' h2 h3
end Go.Proofs.Ytdoglkjhmaiknaa

namespace Go.Proofs.Ytdoglkjhmaiknaa
open Go.RowKit
set_option linter.unusedVariables false

/-- PathOp: its numbers and bytes. -/
structure SPathOp where
  f0 : Int
  f1 : Int
  f2 : Int
  f3 : List Int
instance : Inhabited SPathOp := ⟨⟨0, 0, 0, []⟩⟩
def SPathOp.c (e : SPathOp) (u : Value) : List Value := [.int .i64 e.f0, .int .i64 e.f1, .int .i64 e.f2, u]
abbrev SPathOp.d (e : SPathOp) : List Int := e.f3
theorem infoPathOp : (Try.prog.info? 34).map (fun i => (i.zero, i.size, i.bytes)) = some (some (.agg #[.int .i64 0, .int .i64 0, .int .i64 0, .slice none 0 0]), 4, 48) := by kernel_rfl
end Go.Proofs.Ytdoglkjhmaiknaa

namespace Go.Proofs.Ytdoglkjhmaiknaa
open Go.RowKit
set_option linter.unusedVariables false

/-- PathObs: its numbers. -/
structure SPathObs where
  f0 : Int
  f1 : Int
  f2 : Int
  f3 : Bool
  f4 : Bool
instance : Inhabited SPathObs := ⟨⟨0, 0, 0, false, false⟩⟩
def SPathObs.c (e : SPathObs) : List Value := [.int .i64 e.f0, .int .i64 e.f1, .int .i64 e.f2, .bool e.f3, .bool e.f4]
abbrev SPathObs.L (L : List SPathObs) : List (List Value) := L.map SPathObs.c
theorem SPathObs.at (L : List SPathObs) (j : Nat) (h : j < L.length) : (SPathObs.L L).getD j [] = (L.getD j default).c := map_at _ L default j h
theorem infoPathObs : (Try.prog.info? 32).map (fun i => (i.zero, i.size, i.bytes)) = some (some (.agg #[.int .i64 0, .int .i64 0, .int .i64 0, .bool false, .bool false]), 5, 32) := by kernel_rfl
/-- What markPathObsS writes. -/
def marksPathObs (q : Int) (n : Nat) : List (List Value) := (List.range n).map fun (j : Nat) => [.int .i64 (q + 5 * (j : Int)), .int .i64 (q + 5 * (j : Int) + 1), .int .i64 (q + 5 * (j : Int) + 2), .bool ((q + 5 * (j : Int) + 3) % 3 == 0), .bool ((q + 5 * (j : Int) + 4) % 3 == 0)]
theorem marksPathObs_length (q : Int) (n : Nat) : (marksPathObs q n).length = n := by simp [marksPathObs]
theorem marksPathObs_at (q : Int) (n j : Nat) (h : j < n) : (marksPathObs q n).getD j [] = [.int .i64 (q + 5 * (j : Int)), .int .i64 (q + 5 * (j : Int) + 1), .int .i64 (q + 5 * (j : Int) + 2), .bool ((q + 5 * (j : Int) + 3) % 3 == 0), .bool ((q + 5 * (j : Int) + 4) % 3 == 0)] := by simp [marksPathObs, List.getD, h]
end Go.Proofs.Ytdoglkjhmaiknaa

namespace Go.Proofs.Ytdoglkjhmaiknaa
open Go.RowKit
set_option linter.unusedVariables false

/-- The paths: whether it is the server; the address in use; what came, was sent, is valid, by address; the challenges that wait. -/
structure PX where
  srv : Bool
  ad : Nat
  cm : Nat → Int
  st : Nat → Int
  va : Nat → Bool
  ws : List (List Int × Nat)
def updF {α : Type} (f : Nat → α) (k : Nat) (x : α) : Nat → α := fun j => if j = k then x else f j
theorem updF_at {α : Type} (f : Nat → α) (k : Nat) (x : α) : updF f k x k = x := by unfold updF; rw [if_pos rfl]
theorem updF_ne {α : Type} (f : Nat → α) (k : Nat) (x : α) (j : Nat) (h : j ≠ k) : updF f k x j = f j := by unfold updF; rw [if_neg h]
def PX.may (m : PX) : Int := if m.va m.ad then 4611686018427387903 else max 0 (3 * m.cm m.ad - m.st m.ad)
def wpush (ws : List (List Int × Nat)) (c : List Int × Nat) : List (List Int × Nat) := if ws.length < 4 then ws ++ [c] else (ws ++ [c]).tail
def wat (ws : List (List Int × Nat)) (D : List Int) : Nat := ws.findIdx (fun c => decide (c.1 = D))
def wdel (ws : List (List Int × Nat)) (a : Nat) : List (List Int × Nat) := ws.filter (fun c => !decide (c.2 = a))
def pstep (m : PX) (o : SPathOp) : PX × Int × Bool :=
  if o.f2 < 0 ∨ 255 < o.f2 ∨ o.f1 < 0 ∨ 2000 < o.f1 then (m, 1, false)
  else if o.f0 = 1 then (if m.srv = false ∧ o.f2 ≠ (m.ad : Int) then (m, 7, false) else ({ m with ad := o.f2.toNat, cm := updF m.cm o.f2.toNat (m.cm o.f2.toNat + o.f1) }, 0, false))
  else if o.f0 = 2 then (if m.may < o.f1 then (m, 8, false) else ({ m with st := updF m.st m.ad (m.st m.ad + o.f1) }, 0, false))
  else if o.f0 = 3 then (if o.f3.length ≠ 8 then (m, 1, false) else ({ m with ws := wpush m.ws (o.f3, m.ad) }, 0, false))
  else if o.f0 = 4 then (if o.f3.length ≠ 8 then (m, 1, false)
    else if wat m.ws o.f3 < m.ws.length then ({ m with va := updF m.va (m.ws.getD (wat m.ws o.f3) default).2 true, ws := wdel m.ws (m.ws.getD (wat m.ws o.f3) default).2 }, 0, true) else (m, 0, false))
  else (m, 1, false)
def pobs (s : PX × Int × Bool) : SPathObs := ⟨s.2.1, s.1.ad, s.1.may, s.1.va s.1.ad, s.2.2⟩
def px0 (srv : Bool) : PX := ⟨srv, 0, fun _ => 0, fun _ => 0, updF (fun _ => false) 0 (!srv), []⟩
def prunP (srv : Bool) (R : List SPathOp) : Nat → PX
  | 0 => px0 srv
  | k + 1 => (pstep (prunP srv R k) (R.getD k default)).1
def pobsAt (srv : Bool) (R : List SPathOp) (k : Nat) : SPathObs := pobs (pstep (prunP srv R k) (R.getD k default))
/-- What PathRun answers. -/
def prY (srv : Bool) (R : List SPathOp) : List SPathObs := if 300 < R.length then [] else (List.range R.length).map (pobsAt srv R)
def prC (R : List SPathOp) : Int := if 300 < R.length then 4 else 0
/-- What holds behind i operations. -/
structure PXI (i : Nat) (m : PX) : Prop where
  ad : m.ad < 256
  cm : ∀ k, 0 ≤ m.cm k ∧ m.cm k ≤ 2000 * (i : Int)
  st : ∀ k, 0 ≤ m.st k ∧ m.st k ≤ 2000 * (i : Int)
  wl : m.ws.length ≤ 4
  wd : ∀ c ∈ m.ws, c.1.length = 8 ∧ c.2 < 256
  wb : ∀ c ∈ m.ws, ∀ x ∈ c.1, 0 ≤ x ∧ x < 256
theorem wat_at (ws : List (List Int × Nat)) (D : List Int) (h : wat ws D < ws.length) : (ws.getD (wat ws D) default) ∈ ws ∧ (ws.getD (wat ws D) default).1 = D := by
  have e : ws.getD (wat ws D) default = ws[wat ws D] := by simp [List.getD, h]
  rw [e]
  refine ⟨List.getElem_mem h, ?_⟩
  have := List.findIdx_getElem (p := fun c : List Int × Nat => decide (c.1 = D)) (xs := ws) (w := h)
  exact of_decide_eq_true this
theorem PXI.step {i : Nat} {m : PX} (h : PXI i m) (o : SPathOp) (hb : ∀ x ∈ o.f3, 0 ≤ x ∧ x < 256) : PXI (i + 1) (pstep m o).1 := by
  have up : PXI (i + 1) m := ⟨h.ad, fun k => by have := h.cm k; omega, fun k => by have := h.st k; omega, h.wl, h.wd, h.wb⟩
  unfold pstep
  split
  · exact up
  rename_i c0
  split
  · split
    · exact up
    · refine ⟨by show o.f2.toNat < 256; omega, fun k => ?_, fun k => up.st k, up.wl, up.wd, up.wb⟩
      show 0 ≤ updF m.cm _ _ k ∧ updF m.cm _ _ k ≤ _
      by_cases e : k = o.f2.toNat
      · rw [e, updF_at]; have := h.cm o.f2.toNat; omega
      · rw [updF_ne _ _ _ _ e]; exact up.cm k
  split
  · split
    · exact up
    · refine ⟨h.ad, fun k => up.cm k, fun k => ?_, up.wl, up.wd, up.wb⟩
      show 0 ≤ updF m.st _ _ k ∧ updF m.st _ _ k ≤ _
      by_cases e : k = m.ad
      · rw [e, updF_at]; have := h.st m.ad; omega
      · rw [updF_ne _ _ _ _ e]; exact up.st k
  split
  · split
    · exact up
    · rename_i c8
      have hm : ∀ c ∈ wpush m.ws (o.f3, m.ad), c ∈ m.ws ∨ c = (o.f3, m.ad) := fun c hc => by
        unfold wpush at hc
        split at hc
        · rcases List.mem_append.1 hc with z | z
          · exact Or.inl z
          · exact Or.inr (by simpa using z)
        · rcases List.mem_append.1 (List.mem_of_mem_tail hc) with z | z
          · exact Or.inl z
          · exact Or.inr (by simpa using z)
      refine ⟨h.ad, up.cm, up.st, ?_, fun c hc => ?_, fun c hc => ?_⟩
      · show (wpush m.ws (o.f3, m.ad)).length ≤ 4
        have := h.wl
        unfold wpush
        split <;> simp <;> omega
      · rcases hm c hc with z | rfl
        · exact h.wd c z
        · exact ⟨by simpa using c8, h.ad⟩
      · rcases hm c hc with z | rfl
        · exact h.wb c z
        · exact hb
  split
  · split
    · exact up
    split
    · refine ⟨h.ad, up.cm, up.st, Nat.le_trans (List.length_filter_le _ _) h.wl, fun c hc => h.wd c (List.mem_filter.1 hc).1, fun c hc => h.wb c (List.mem_filter.1 hc).1⟩
    · exact up
  · exact up
theorem PXI.zero (srv : Bool) : PXI 0 (px0 srv) := ⟨by show 0 < 256; omega, fun k => ⟨Int.le_refl _, Int.le_refl _⟩, fun k => ⟨Int.le_refl _, Int.le_refl _⟩, Nat.zero_le _, (fun c hc => by cases hc), (fun c hc => by cases hc)⟩
theorem prunP_inv (srv : Bool) (R : List SPathOp) (hb : ∀ j, ∀ x ∈ (R.getD j default).f3, 0 ≤ x ∧ x < 256) : ∀ k, PXI k (prunP srv R k)
  | 0 => PXI.zero srv
  | k + 1 => (prunP_inv srv R hb k).step _ (hb k)
theorem PXI.may {i : Nat} {m : PX} (h : PXI i m) (hi : i ≤ 300) : 0 ≤ m.may ∧ m.may ≤ 4611686018427387903 := by
  have h1 := h.cm m.ad
  have h2 := h.st m.ad
  unfold PX.may
  split <;> omega
/-- A challenge that waits, as cells. -/
def wrow (c : List Int × Nat) : List Value := c.1.map (Value.int .u8) ++ [.int .i64 (c.2 : Int)]
/-- The program's paths, in memory. -/
def PB (w : World) (g : Nat) (m : PX) (wv : Value) : Prop :=
  ∃ cs : Array Value, w.heap[g]? = some (.cells cs 60 (0, 0)) ∧ cs.size = 771 ∧ cs[0]? = some (.bool m.srv) ∧ cs[1]? = some (.int .i64 (m.ad : Int)) ∧
    (∀ k, k < 256 → cs[2 + k * 3]? = some (.int .i64 (m.cm k)) ∧ cs[2 + k * 3 + 1]? = some (.int .i64 (m.st k)) ∧ cs[2 + k * 3 + 2]? = some (.bool (m.va k))) ∧ cs[770]? = some wv
def PRep (w : World) (g base : Nat) (m : PX) : Prop := ∃ wv, PB w g m wv ∧ OffR 74 9 w base wv (m.ws.map wrow)
theorem PB.free {w : World} {g : Nat} {m : PX} {wv : Value} (h : PB w g m wv) (k : Nat) : w.frozen? ⟨g, k, none⟩ = false := by
  obtain ⟨cs, b, _⟩ := h
  exact bk_free b k
theorem PB.lt {w : World} {g : Nat} {m : PX} {wv : Value} (h : PB w g m wv) : g < w.heap.size := by
  obtain ⟨cs, b, _⟩ := h
  exact (Array.getElem?_eq_some_iff.1 b).1
theorem PB.c0 {w : World} {g : Nat} {m : PX} {wv : Value} (h : PB w g m wv) : w.cell? ⟨g, 0, none⟩ = some (.bool m.srv) := by
  obtain ⟨cs, b, _, c, _⟩ := h
  rw [bk_cell b]; exact c
theorem PB.c1 {w : World} {g : Nat} {m : PX} {wv : Value} (h : PB w g m wv) : w.cell? ⟨g, 1, none⟩ = some (.int .i64 (m.ad : Int)) := by
  obtain ⟨cs, b, _, _, c, _⟩ := h
  rw [bk_cell b]; exact c
theorem PB.cw {w : World} {g : Nat} {m : PX} {wv : Value} (h : PB w g m wv) : w.cell? ⟨g, 770, none⟩ = some wv := by
  obtain ⟨cs, b, _, _, _, _, c⟩ := h
  rw [bk_cell b]; exact c
theorem PB.ck {w : World} {g : Nat} {m : PX} {wv : Value} (h : PB w g m wv) (k : Nat) (hk : k < 256) : w.cell? ⟨g, 2 + k * 3, none⟩ = some (.int .i64 (m.cm k)) ∧ w.cell? ⟨g, 2 + k * 3 + 1, none⟩ = some (.int .i64 (m.st k)) ∧ w.cell? ⟨g, 2 + k * 3 + 2, none⟩ = some (.bool (m.va k)) := by
  obtain ⟨cs, b, _, _, _, c, _⟩ := h
  rw [bk_cell b, bk_cell b, bk_cell b]; exact c k hk
theorem inUseI (g : Nat) (m : PX) (wv : Value) (w : World) (h : PB w g m wv) (had : m.ad < 256) :
    Calls Try.prog 28 #[.pointer (some ⟨g, 0, none⟩)] w fun e w' => e = .returned (.pointer (some ⟨g, 2 + m.ad * 3, none⟩)) ∧ ∃ n, w' = w.drewN n := by
  have d1 := h.c1
  generalize m.ad = ad at *
  have hb : (ad : Int) < 256 := by omega
  clear h
  go_enter Try.func28, Try.ntmps28
  go_wp2_with fail
  go_quiet (fail)
  go_wp2_with fail
  go_ret
  exact ⟨rfl, _, rfl⟩
theorem mayI (a b : Int) (t : Bool) (w : World) (ha : 0 ≤ a ∧ a ≤ 600000) (hb : 0 ≤ b ∧ b ≤ 600000) :
    Calls Try.prog 29 #[.agg #[.int .i64 a, .int .i64 b, .bool t]] w fun e w' => e = .returned (.int .i64 (if t then 4611686018427387903 else max 0 (3 * a - b))) ∧ Below w.heap.size w w' := by
  cases t
  · go_enter Try.func29, Try.ntmps29
    go_wp2_with fail
    go_ret
    exact ⟨rfl, (Below.refl _ _).alloc (Nat.le_refl _) _⟩
  · go_enter Try.func29, Try.ntmps29
    go_wp2_with fail
    go_ret
    exact ⟨rfl, (Below.refl _ _).alloc (Nat.le_refl _) _⟩
end Go.Proofs.Ytdoglkjhmaiknaa

namespace Go.Proofs.Ytdoglkjhmaiknaa
open Go.RowKit
set_option linter.unusedVariables false
set_option linter.unusedSimpArgs false

/-- An earlier challenge that was let in and has these bytes. -/
def AskedAt (srv : Bool) (R : List SPathOp) (D : List Int) (k : Nat) : Prop := (R.getD k default).f0 = 3 ∧ (pobsAt srv R k).f0 = 0 ∧ (R.getD k default).f3 = D
instance (srv : Bool) (R : List SPathOp) (D : List Int) (k : Nat) : Decidable (AskedAt srv R D k) := by unfold AskedAt; infer_instance
/-- What the law books as valid behind k places of an answer's loop. -/
def vUp (srv : Bool) (R : List SPathOp) (D : List Int) (o : SPathObs) (v : Nat → Bool) : Nat → (Nat → Bool)
  | 0 => v
  | k + 1 => if AskedAt srv R D k then updF (vUp srv R D o v k) (pobsAt srv R k).f1.toNat (vUp srv R D o v k (pobsAt srv R k).f1.toNat || (o.f3 && decide ((pobsAt srv R k).f1 = o.f1)) || decide ((pobsAt srv R k).f1 ≠ o.f1)) else vUp srv R D o v k
theorem vUp_mono (srv : Bool) (R : List SPathOp) (D : List Int) (o : SPathObs) (v : Nat → Bool) (q : Nat) (h : v q = true) : ∀ k, vUp srv R D o v k q = true
  | 0 => h
  | k + 1 => by
    have ih := vUp_mono srv R D o v q h k
    unfold vUp
    split
    · by_cases e : q = (pobsAt srv R k).f1.toNat
      · subst e; rw [updF_at, ih]; rfl
      · rw [updF_ne _ _ _ _ e]; exact ih
    · exact ih
theorem vUp_hit (srv : Bool) (R : List SPathOp) (D : List Int) (o : SPathObs) (v : Nat → Bool) (k0 : Nat) (h : AskedAt srv R D k0) (hv : (pobsAt srv R k0).f1 ≠ o.f1 ∨ o.f3 = true) : ∀ k, k0 < k → vUp srv R D o v k (pobsAt srv R k0).f1.toNat = true
  | 0, hk => absurd hk (by omega)
  | k + 1, hk => by
    by_cases e : k = k0
    · subst e
      unfold vUp
      rw [if_pos h, updF_at]
      by_cases e2 : (pobsAt srv R k).f1 = o.f1
      · have h3 : o.f3 = true := by
          rcases hv with q | q
          · exact absurd e2 q
          · exact q
        simp [e2, h3]
      · simp [e2]
    · have ih := vUp_hit srv R D o v k0 h hv k (by omega)
      unfold vUp
      split
      · by_cases e3 : (pobsAt srv R k0).f1.toNat = (pobsAt srv R k).f1.toNat
        · rw [e3] at ih ⊢
          rw [updF_at, ih]; rfl
        · rw [updF_ne _ _ _ _ e3]; exact ih
      · exact ih
/-- The law's books against the paths behind i operations. -/
structure PBk (srv : Bool) (R : List SPathOp) (i : Nat) (now : Nat) (cm st : Nat → Int) (va : Nat → Bool) : Prop where
  now : now = (prunP srv R i).ad
  cm : cm = (prunP srv R i).cm
  st : st = (prunP srv R i).st
  va : ∀ k, (prunP srv R i).va k = true → va k = true
  un : ∀ k, (prunP srv R i).va k = false → (prunP srv R i).st k ≤ 3 * (prunP srv R i).cm k
  ws : ∀ c ∈ (prunP srv R i).ws, ∃ k, k < i ∧ AskedAt srv R c.1 k ∧ (pobsAt srv R k).f1 = (c.2 : Int)
theorem PBk.zero (srv : Bool) (R : List SPathOp) : PBk srv R 0 0 (fun _ => 0) (fun _ => 0) (updF (fun _ => false) 0 (!srv)) :=
  ⟨rfl, rfl, rfl, fun k h => h, fun k _ => by show (0 : Int) ≤ 3 * 0; omega, fun c hc => by cases hc⟩
theorem wpush_mem {ws : List (List Int × Nat)} {x c : List Int × Nat} (h : c ∈ wpush ws x) : c ∈ ws ∨ c = x := by
  unfold wpush at h
  split at h
  · rcases List.mem_append.1 h with z | z
    · exact Or.inl z
    · exact Or.inr (by simpa using z)
  · rcases List.mem_append.1 (List.mem_of_mem_tail h) with z | z
    · exact Or.inl z
    · exact Or.inr (by simpa using z)
section
variable {srv : Bool} {R : List SPathOp} {i now : Nat} {cm st : Nat → Int} {va : Nat → Bool}
theorem prun_succ (srv : Bool) (R : List SPathOp) (i : Nat) : prunP srv R (i + 1) = (pstep (prunP srv R i) (R.getD i default)).1 := rfl
theorem PBk.wsS (h : PBk srv R i now cm st va) : ∀ c ∈ (prunP srv R i).ws, ∃ k, k < i + 1 ∧ AskedAt srv R c.1 k ∧ (pobsAt srv R k).f1 = (c.2 : Int) := fun c hc => by
  obtain ⟨k, h1, h2⟩ := h.ws c hc
  exact ⟨k, by omega, h2⟩
/-- An operation that was refused changes nothing. -/
theorem pstep_bad (m : PX) (o : SPathOp) (h : (pstep m o).2.1 ≠ 0) : (pstep m o).1 = m := by
  unfold pstep at h ⊢
  split
  · rfl
  split
  · split
    · rfl
    · rename_i c0 c1 c2
      rw [if_neg c0, if_pos c1, if_neg c2] at h; exact absurd rfl h
  split
  · split
    · rfl
    · rename_i c0 c1 c2 c3
      rw [if_neg c0, if_neg c1, if_pos c2, if_neg c3] at h; exact absurd rfl h
  split
  · split
    · rfl
    · rename_i c0 c1 c2 c3 c4
      rw [if_neg c0, if_neg c1, if_neg c2, if_pos c3, if_neg c4] at h; exact absurd rfl h
  split
  · split
    · rfl
    split
    · rename_i c0 c1 c2 c3 c4 c5 c6
      rw [if_neg c0, if_neg c1, if_neg c2, if_neg c3, if_pos c4, if_neg c5, if_pos c6] at h; exact absurd rfl h
    · rfl
  · rfl
theorem PBk.bad (h : PBk srv R i now cm st va) (hc : (pobsAt srv R i).f0 ≠ 0) : PBk srv R (i + 1) now cm st va := by
  have e : prunP srv R (i + 1) = prunP srv R i := (prun_succ srv R i).trans (pstep_bad _ _ hc)
  exact ⟨by rw [e]; exact h.now, by rw [e]; exact h.cm, by rw [e]; exact h.st, by rw [e]; exact h.va, by rw [e]; exact h.un, by rw [e]; exact h.wsS⟩
theorem PBk.came (h : PBk srv R i now cm st va) (k : (R.getD i default).f0 = 1) (hc : (pobsAt srv R i).f0 = 0) :
    0 ≤ (R.getD i default).f2 ∧ (R.getD i default).f2 ≤ 255 ∧ 0 ≤ (R.getD i default).f1 ∧ (R.getD i default).f1 ≤ 2000 ∧ PBk srv R (i + 1) (R.getD i default).f2.toNat (updF cm (R.getD i default).f2.toNat (cm (R.getD i default).f2.toNat + (R.getD i default).f1)) st va := by
  have hc' : (pstep (prunP srv R i) (R.getD i default)).2.1 = 0 := hc
  have es := prun_succ srv R i
  unfold pstep at hc' es
  by_cases c0 : (R.getD i default).f2 < 0 ∨ 255 < (R.getD i default).f2 ∨ (R.getD i default).f1 < 0 ∨ 2000 < (R.getD i default).f1
  · rw [if_pos c0] at hc'; exact absurd hc' (by simp)
  rw [if_neg c0, if_pos k] at hc' es
  by_cases c1 : (prunP srv R i).srv = false ∧ (R.getD i default).f2 ≠ ((prunP srv R i).ad : Int)
  · rw [if_pos c1] at hc'; exact absurd hc' (by simp)
  rw [if_neg c1] at es
  refine ⟨by omega, by omega, by omega, by omega, by rw [es], by rw [es, h.cm], by rw [es]; exact h.st, by rw [es]; exact h.va, fun q hq => ?_, by rw [es]; exact h.wsS⟩
  rw [es] at hq ⊢
  have u := h.un q hq
  show (prunP srv R i).st q ≤ 3 * updF (prunP srv R i).cm _ _ q
  by_cases e : q = (R.getD i default).f2.toNat
  · subst e; rw [updF_at]; omega
  · rw [updF_ne _ _ _ _ e]; exact u
theorem PBk.send (h : PBk srv R i now cm st va) (k : (R.getD i default).f0 = 2) (hc : (pobsAt srv R i).f0 = 0) :
    0 ≤ (R.getD i default).f1 ∧ (R.getD i default).f1 ≤ 2000 ∧ (va now = false → st now + (R.getD i default).f1 ≤ 3 * cm now) ∧ PBk srv R (i + 1) now cm (updF st now (st now + (R.getD i default).f1)) va := by
  have hc' : (pstep (prunP srv R i) (R.getD i default)).2.1 = 0 := hc
  have es := prun_succ srv R i
  unfold pstep at hc' es
  by_cases c0 : (R.getD i default).f2 < 0 ∨ 255 < (R.getD i default).f2 ∨ (R.getD i default).f1 < 0 ∨ 2000 < (R.getD i default).f1
  · rw [if_pos c0] at hc'; exact absurd hc' (by simp)
  rw [if_neg c0, if_neg (by omega), if_pos k] at hc' es
  by_cases c1 : (prunP srv R i).may < (R.getD i default).f1
  · rw [if_pos c1] at hc'; exact absurd hc' (by simp)
  rw [if_neg c1] at es
  have room : (prunP srv R i).va (prunP srv R i).ad = false → (prunP srv R i).st (prunP srv R i).ad + (R.getD i default).f1 ≤ 3 * (prunP srv R i).cm (prunP srv R i).ad := fun hv => by
    have u := h.un _ hv
    unfold PX.may at c1
    rw [hv] at c1
    simp only [Bool.false_eq_true, if_false] at c1
    omega
  refine ⟨by omega, by omega, fun hv => ?_, by rw [es]; exact h.now, by rw [es]; exact h.cm, by rw [es, h.now, h.st], by rw [es]; exact h.va, fun q hq => ?_, by rw [es]; exact h.wsS⟩
  · rw [h.now, h.cm, h.st]
    refine room ?_
    cases hm : (prunP srv R i).va (prunP srv R i).ad with
    | false => rfl
    | true => have t := h.va _ hm; rw [← h.now, hv] at t; exact absurd t (by decide)
  · rw [es] at hq ⊢
    show updF (prunP srv R i).st _ _ q ≤ 3 * (prunP srv R i).cm q
    by_cases e : q = (prunP srv R i).ad
    · subst e; rw [updF_at]; exact room hq
    · rw [updF_ne _ _ _ _ e]; exact h.un q hq
theorem PBk.chal (h : PBk srv R i now cm st va) (k : (R.getD i default).f0 = 3) (hc : (pobsAt srv R i).f0 = 0) : PBk srv R (i + 1) now cm st va := by
  have hc' : (pstep (prunP srv R i) (R.getD i default)).2.1 = 0 := hc
  have es := prun_succ srv R i
  have ead : (pobsAt srv R i).f1 = ((prunP srv R (i + 1)).ad : Int) := rfl
  unfold pstep at hc' es
  by_cases c0 : (R.getD i default).f2 < 0 ∨ 255 < (R.getD i default).f2 ∨ (R.getD i default).f1 < 0 ∨ 2000 < (R.getD i default).f1
  · rw [if_pos c0] at hc'; exact absurd hc' (by simp)
  rw [if_neg c0, if_neg (by omega), if_neg (by omega), if_pos k] at hc' es
  by_cases c1 : (R.getD i default).f3.length ≠ 8
  · rw [if_pos c1] at hc'; exact absurd hc' (by simp)
  rw [if_neg c1] at es
  refine ⟨by rw [es]; exact h.now, by rw [es]; exact h.cm, by rw [es]; exact h.st, by rw [es]; exact h.va, by rw [es]; exact h.un, fun c hcm => ?_⟩
  rw [es] at hcm ead
  rcases wpush_mem hcm with q | rfl
  · exact h.wsS c q
  · exact ⟨i, by omega, ⟨k, hc, rfl⟩, ead⟩
theorem PBk.answ (h : PBk srv R i now cm st va) (k : (R.getD i default).f0 = 4) (hc : (pobsAt srv R i).f0 = 0) :
    ((pobsAt srv R i).f4 = false → PBk srv R (i + 1) now cm st va) ∧ ((pobsAt srv R i).f4 = true → (∃ q, q < i ∧ AskedAt srv R (R.getD i default).f3 q) ∧ PBk srv R (i + 1) now cm st (vUp srv R (R.getD i default).f3 (pobsAt srv R i) va i)) := by
  have hc' : (pstep (prunP srv R i) (R.getD i default)).2.1 = 0 := hc
  have es := prun_succ srv R i
  have e4 : (pobsAt srv R i).f4 = (pstep (prunP srv R i) (R.getD i default)).2.2 := rfl
  have e1 : (pobsAt srv R i).f1 = ((prunP srv R (i + 1)).ad : Int) := rfl
  have e3 : (pobsAt srv R i).f3 = (prunP srv R (i + 1)).va (prunP srv R (i + 1)).ad := rfl
  unfold pstep at hc' es e4
  by_cases c0 : (R.getD i default).f2 < 0 ∨ 255 < (R.getD i default).f2 ∨ (R.getD i default).f1 < 0 ∨ 2000 < (R.getD i default).f1
  · rw [if_pos c0] at hc'; exact absurd hc' (by simp)
  rw [if_neg c0, if_neg (by omega), if_neg (by omega), if_neg (by omega), if_pos k] at hc' es e4
  by_cases c1 : (R.getD i default).f3.length ≠ 8
  · rw [if_pos c1] at hc'; exact absurd hc' (by simp)
  rw [if_neg c1] at es e4
  by_cases cf : wat (prunP srv R i).ws (R.getD i default).f3 < (prunP srv R i).ws.length
  · rw [if_pos cf] at es e4
    refine ⟨fun q => by rw [e4] at q; exact absurd q (by simp), fun _ => ?_⟩
    obtain ⟨hm, hD⟩ := wat_at _ _ cf
    obtain ⟨q, hq, hA, hf⟩ := h.ws _ hm
    rw [hD] at hA
    refine ⟨⟨q, hq, hA⟩, by rw [es]; exact h.now, by rw [es]; exact h.cm, by rw [es]; exact h.st, fun t ht => ?_, fun t ht => ?_, fun c hcm => ?_⟩
    · rw [es] at ht
      have ht' : updF (prunP srv R i).va ((prunP srv R i).ws.getD (wat (prunP srv R i).ws (R.getD i default).f3) default).2 true t = true := ht
      by_cases e : t = ((prunP srv R i).ws.getD (wat (prunP srv R i).ws (R.getD i default).f3) default).2
      · have hit := vUp_hit srv R (R.getD i default).f3 (pobsAt srv R i) va q hA (by
          rw [es] at e1 e3
          rw [hf, e1, e3]
          dsimp only
          by_cases z : ((prunP srv R i).ws.getD (wat (prunP srv R i).ws (R.getD i default).f3) default).2 = (prunP srv R i).ad
          · right; rw [z, updF_at]
          · left; omega) i hq
        rw [hf, Int.toNat_natCast, ← e] at hit
        exact hit
      · rw [updF_ne _ _ _ _ e] at ht'
        exact vUp_mono srv R _ _ va t (h.va t ht') i
    · rw [es] at ht ⊢
      have ht' : updF (prunP srv R i).va ((prunP srv R i).ws.getD (wat (prunP srv R i).ws (R.getD i default).f3) default).2 true t = false := ht
      by_cases e : t = ((prunP srv R i).ws.getD (wat (prunP srv R i).ws (R.getD i default).f3) default).2
      · rw [e, updF_at] at ht'; exact absurd ht' (by decide)
      · rw [updF_ne _ _ _ _ e] at ht'; exact h.un t ht'
    · rw [es] at hcm
      exact h.wsS c (List.mem_filter.1 hcm).1
  · rw [if_neg cf] at es e4
    refine ⟨fun _ => ⟨by rw [es]; exact h.now, by rw [es]; exact h.cm, by rw [es]; exact h.st, by rw [es]; exact h.va, by rw [es]; exact h.un, by rw [es]; exact h.wsS⟩, fun q => by rw [e4] at q; exact absurd q (by simp)⟩
/-- What the law asks at the end of a round. -/
theorem PBk.obs (h : PBk srv R (i + 1) now cm st va) (hI : PXI (i + 1) (prunP srv R (i + 1))) (hi : i + 1 ≤ 300) :
    (pobsAt srv R i).f1 = (now : Int) ∧ now < 256 ∧ ((pobsAt srv R i).f3 = true → va now = true) ∧ 0 ≤ (pobsAt srv R i).f2 ∧ ((pobsAt srv R i).f3 = false → (pobsAt srv R i).f2 = max 0 (3 * cm now - st now)) := by
  have e1 : (pobsAt srv R i).f1 = ((prunP srv R (i + 1)).ad : Int) := rfl
  have e2 : (pobsAt srv R i).f2 = (prunP srv R (i + 1)).may := rfl
  have e3 : (pobsAt srv R i).f3 = (prunP srv R (i + 1)).va (prunP srv R (i + 1)).ad := rfl
  refine ⟨by rw [e1, h.now], by rw [h.now]; exact hI.ad, fun q => by rw [h.now]; exact h.va _ (by rw [← e3]; exact q), by rw [e2]; exact (hI.may hi).1, fun q => ?_⟩
  rw [e2, h.now, h.cm, h.st]
  unfold PX.may
  rw [← e3, q]
  simp
end
end Go.Proofs.Ytdoglkjhmaiknaa

namespace Go.Proofs.Ytdoglkjhmaiknaa
open Go.RowKit
set_option linter.unusedVariables false
set_option linter.unusedSimpArgs false

/-- DrawPathRun: what is drawn, as pure functions. -/
def k7 : List Int := [1, 1, 2, 2, 2, 3, 4]
/-- The address. -/
def pA (xs : List Int) (srv : Bool) (ad : Int) (s : St) : Int × St := if nextV xs 8 s = 7 ∧ srv = true then (nextV xs 4 (nextS xs 8 s), nextS xs 4 (nextS xs 8 s)) else (ad, nextS xs 8 s)
/-- The operation, ahead of its bends. -/
def pB (xs : List Int) (ad : Int) (s : St) : SPathOp × St :=
  if 3 ≤ k7.getD (nextV xs 7 s).toNat 0 then (⟨k7.getD (nextV xs 7 s).toNat 0, nextV xs 600 (nextS xs 7 s), ad, [nextV xs 5 (nextS xs 600 (nextS xs 7 s)), 0, 0, 0, 0, 0, 0, 1]⟩, nextS xs 5 (nextS xs 600 (nextS xs 7 s)))
  else (⟨k7.getD (nextV xs 7 s).toNat 0, nextV xs 600 (nextS xs 7 s), ad, []⟩, nextS xs 600 (nextS xs 7 s))
/-- Its bends. -/
def pC (xs : List Int) (o : SPathOp) (s : St) : SPathOp × St :=
  if nextV xs 60 s = 0 then (⟨o.f0, ([-1, 2000, 2001] : List Int).getD (nextV xs 3 (nextS xs 60 s)).toNat 0, o.f2, o.f3⟩, nextS xs 3 (nextS xs 60 s))
  else if nextV xs 60 s = 1 then (⟨o.f0, o.f1, ([-1, 255, 256, 7] : List Int).getD (nextV xs 4 (nextS xs 60 s)).toNat 0, o.f3⟩, nextS xs 4 (nextS xs 60 s))
  else if nextV xs 60 s = 2 then (⟨o.f0, o.f1, o.f2, bysV xs (nextS xs 10 (nextS xs 60 s)) (nextV xs 10 (nextS xs 60 s)).toNat⟩, bysS xs (nextS xs 10 (nextS xs 60 s)) (nextV xs 10 (nextS xs 60 s)).toNat)
  else if nextV xs 60 s = 3 then (⟨nextV xs 7 (nextS xs 60 s) - 1, o.f1, o.f2, o.f3⟩, nextS xs 7 (nextS xs 60 s))
  else (o, nextS xs 60 s)
def pOp (xs : List Int) (srv : Bool) (ad : Int) (s : St) : SPathOp × Int × St :=
  let a := pA xs srv ad s
  let b := pB xs a.1 a.2
  let c := pC xs b.1 b.2
  (c.1, a.1, c.2)
def pLp (xs : List Int) (srv : Bool) (s0 : St) : Nat → List SPathOp × Int × St
  | 0 => ([], 0, s0)
  | i + 1 => ((pLp xs srv s0 i).1 ++ [(pOp xs srv (pLp xs srv s0 i).2.1 (pLp xs srv s0 i).2.2).1], (pOp xs srv (pLp xs srv s0 i).2.1 (pLp xs srv s0 i).2.2).2.1, (pOp xs srv (pLp xs srv s0 i).2.1 (pLp xs srv s0 i).2.2).2.2)
theorem pLp_succ (xs : List Int) (srv : Bool) (s0 : St) (i : Nat) : pLp xs srv s0 (i + 1) = ((pLp xs srv s0 i).1 ++ [(pOp xs srv (pLp xs srv s0 i).2.1 (pLp xs srv s0 i).2.2).1], (pOp xs srv (pLp xs srv s0 i).2.1 (pLp xs srv s0 i).2.2).2.1, (pOp xs srv (pLp xs srv s0 i).2.1 (pLp xs srv s0 i).2.2).2.2) := rfl
theorem pLp_len (xs : List Int) (srv : Bool) (s0 : St) : ∀ i, (pLp xs srv s0 i).1.length = i
  | 0 => rfl
  | i + 1 => by rw [pLp_succ, List.length_append, pLp_len xs srv s0 i]; rfl
def prSrv (xs : List Int) : Bool := decide (0 < nextV xs 5 (stZ xs))
def pN (xs : List Int) : Nat := (nextV xs (szV xs 70 + 1) (nextS xs 5 (stZ xs))).toNat + 1
def pS0 (xs : List Int) : St := nextS xs (szV xs 70 + 1) (nextS xs 5 (stZ xs))
/-- What DrawPathRun draws: the operations. -/
def dpr (xs : List Int) : List SPathOp := (pLp xs (prSrv xs) (pS0 xs) (pN xs)).1
theorem pN_le (xs : List Int) : 1 ≤ pN xs ∧ pN xs ≤ 71 := by
  have h0 : 0 ≤ szV xs 70 ∧ szV xs 70 ≤ 70 := by unfold szV; split <;> omega
  have := nextV_bd xs (szV xs 70 + 1) (nextS xs 5 (stZ xs)) (by omega)
  unfold pN
  omega
/-- What is drawn is within bounds. -/
def GoodP (o : SPathOp) : Prop := o.f3.length ≤ 9 ∧ ∀ x ∈ o.f3, 0 ≤ x ∧ x < 256
theorem pB_good (xs : List Int) (ad : Int) (s : St) : GoodP (pB xs ad s).1 := by
  have h5 := nextV_bd xs 5 (nextS xs 600 (nextS xs 7 s)) (by decide)
  unfold pB
  split
  · refine ⟨by show (8 : Nat) ≤ 9; omega, fun x hx => ?_⟩
    simp only [List.mem_cons, List.not_mem_nil, or_false] at hx
    rcases hx with rfl | rfl | rfl | rfl | rfl | rfl | rfl | rfl <;> omega
  · exact ⟨Nat.zero_le _, fun x hx => by cases hx⟩
theorem pC_good (xs : List Int) (o : SPathOp) (s : St) (hB : Bytes xs) (h : GoodP o) : GoodP (pC xs o s).1 := by
  have h10 := nextV_bd xs 10 (nextS xs 60 s) (by decide)
  unfold pC
  split
  · exact h
  split
  · exact h
  split
  · exact ⟨by show (bysV xs _ _).length ≤ 9; rw [bysV_length]; omega, bysV_bytes xs _ _ hB⟩
  split
  · exact h
  · exact h
theorem pLp_good (xs : List Int) (srv : Bool) (s0 : St) (hB : Bytes xs) : ∀ i, ∀ o ∈ (pLp xs srv s0 i).1, GoodP o
  | 0, o, ho => by cases ho
  | i + 1, o, ho => by
    rw [pLp_succ] at ho
    rcases List.mem_append.1 ho with z | z
    · exact pLp_good xs srv s0 hB i o z
    · obtain rfl : o = (pOp xs srv (pLp xs srv s0 i).2.1 (pLp xs srv s0 i).2.2).1 := by simpa using z
      exact pC_good xs _ _ hB (pB_good xs _ _)
theorem getD_memX {α : Type} (L : List α) (d : α) (k : Nat) (h : k < L.length) : L.getD k d ∈ L := by
  simp [List.getD, h]
theorem dpr_good (xs : List Int) (hB : Bytes xs) : (∀ j, (( dpr xs).getD j default).f3.length ≤ 9 ∧ ∀ x ∈ ((dpr xs).getD j default).f3, 0 ≤ x ∧ x < 256) ∧ (dpr xs).length = pN xs := by
  refine ⟨fun j => ?_, pLp_len _ _ _ _⟩
  by_cases h : j < (dpr xs).length
  · exact pLp_good xs _ _ hB _ _ (getD_memX (dpr xs) default j h)
  · have e : (dpr xs).getD j default = default := by simp [List.getD, List.getElem?_eq_none (show (dpr xs).length ≤ j by omega)]
    rw [e]
    exact ⟨Nat.zero_le _, fun x hx => by cases hx⟩
end Go.Proofs.Ytdoglkjhmaiknaa

namespace Go.Proofs.Ytdoglkjhmaiknaa
open Go.RowKit
set_option linter.unusedVariables false
set_option linter.unusedSimpArgs false

theorem own_blkY {w w' : World} {e s n base b : Nat} {v : Value} {L : List Value} (h : w.ownsRow base e s v n L) (hg : w.grownBy w' (some b)) (hne : v.ownBlock ≠ some b) : w'.ownsRow base e s v n L :=
  ownsBlkP h (fun k hk ek => hg.block k hk (fun e2 => hne (by rw [ek]; exact e2)))
theorem own_typY {w w' : World} {e T s n base b : Nat} {v : Value} {L : List Value} {cs : Array Value} (h : w.ownsRow base e s v n L) (hg : w.grownBy w' (some b)) (hb : w.heap[b]? = some (.cells cs T (0, 0))) (hT : e ≠ T) : w'.ownsRow base e s v n L :=
  own_blkY h hg (fun ek => by
    obtain ⟨c2, t2⟩ := owns_typeB h _ ek
    rw [hb] at t2
    have t3 := Option.some.inj t2
    injection t3 with _ t4
    exact hT t4.symm)
theorem GOwns.blkY {T K : Nat} {w w' : World} {base b : Nat} {v : Value} {L : List (List Value)} (h : GOwns T K w base v L) (hg : w.grownBy w' (some b)) (hne : v.ownBlock ≠ some b) : GOwns T K w' base v L := by
  obtain ⟨zs, o, hz⟩ := h
  exact ⟨zs, own_blkY o hg hne, hz⟩
theorem zl_snoc (R : List SPathOp) (o : SPathOp) (U : Nat → Value) (u : Value) : zl SPathOp.c (R ++ [o]) (fun j => if j = R.length then u else U j) = zl SPathOp.c R U ++ [o.c u] := by
  unfold zl
  rw [List.length_append, List.length_singleton, List.range_succ, List.map_append]
  congr 1
  · refine List.map_congr_left fun j hj => ?_
    have h := List.mem_range.1 hj
    show ((R ++ [o]).getD j default).c (if j = R.length then u else U j) = _
    rw [if_neg (by omega), List.getD_eq_getElem?_getD, List.getElem?_append_left h, ← List.getD_eq_getElem?_getD]
  · simp
/-- The operations as the law's own list. -/
structure OpP (w : World) (base : Nat) (v : Value) (R : List SPathOp) (U : Nat → Value) : Prop where
  ow : GOwns 34 4 w base v (zl SPathOp.c R U)
  inn : ∀ j, j < R.length → w.ownsRow base 5 1 (U j) (R.getD j default).f3.length ((R.getD j default).f3.map (Value.int .u8))
theorem OpP.brow {w : World} {base : Nat} {v : Value} {R : List SPathOp} {U : Nat → Value} (h : OpP w base v R U) : BRow 4 SPathOp.c SPathOp.d w v R := ⟨U, h.ow.row, fun j hj => row_of_owns (h.inn j hj)⟩
theorem OpP.below {w w' : World} {base : Nat} {v : Value} {R : List SPathOp} {U : Nat → Value} (h : OpP w base v R U) (hb : Below w.heap.size w w') : OpP w' base v R U := ⟨h.ow.below hb, fun j hj => owns_below (h.inn j hj) hb⟩
theorem OpP.lt {w : World} {base : Nat} {v : Value} {R : List SPathOp} {U : Nat → Value} (h : OpP w base v R U) (k : Nat) (hk : v.ownBlock = some k) : base ≤ k ∧ k < w.heap.size := by
  obtain ⟨zs, o, _⟩ := h.ow
  exact o.lt k hk
theorem OpP.blk {w w' : World} {base b : Nat} {v : Value} {R : List SPathOp} {U : Nat → Value} (h : OpP w base v R U) (hg : w.grownBy w' (some b)) (h1 : v.ownBlock ≠ some b) (h2 : b < base ∨ ∃ cs, w.heap[b]? = some (.cells cs 34 (0, 0))) : OpP w' base v R U := by
  refine ⟨h.ow.blkY hg h1, fun j hj => ?_⟩
  rcases h2 with h2 | ⟨cs, h2⟩
  · exact own_blkY (h.inn j hj) hg (fun e => by have := ((h.inn j hj).lt _ e).1; omega)
  · exact own_typY (h.inn j hj) hg h2 (by decide)
theorem OpP.drawn {w w' : World} {base g : Nat} {v : Value} {R : List SPathOp} {U : Nat → Value} (h : OpP w base v R U) (hg : w.grownBy w' (some g)) (hgl : g < base) : OpP w' base v R U :=
  h.blk hg (fun e => by have := (h.lt _ e).1; omega) (Or.inl hgl)
theorem opP0 (w : World) (base : Nat) (hb : base ≤ w.heap.size) : OpP (w.alloc (.cells #[] 34)) base (.slice (some ⟨w.heap.size, 0, none⟩) 0 0) [] (fun _ => .slice none 0 0) :=
  ⟨GOwns.lit0 _ _ w base hb, fun j hj => by simp at hj⟩
theorem OpP.flat {w : World} {base : Nat} {v : Value} {R : List SPathOp} {U : Nat → Value} (h : OpP w base v R U) : FlatK 4 (zl SPathOp.c R U) := fun x hx => by
  unfold zl at hx
  obtain ⟨j, hj, rfl⟩ := List.mem_map.1 hx
  obtain ⟨a, c, e⟩ := own_form (h.inn j (List.mem_range.1 hj))
  rw [e]
  refine ⟨rfl, fun y hy => ?_⟩
  unfold SPathOp.c at hy
  simp only [List.mem_cons, List.not_mem_nil, or_false] at hy
  rcases hy with rfl | rfl | rfl | rfl <;> rfl
theorem OpP.push {w w' : World} {base : Nat} {v v' : Value} {R : List SPathOp} {U : Nat → Value} (h : OpP w base v R U) (o : SPathOp) (u : Value) (hu : w.ownsRow base 5 1 u o.f3.length (o.f3.map (Value.int .u8)))
    (o6 : GOwns 34 4 w' base v' (zl SPathOp.c R U ++ [o.c u])) (g6 : w.grownBy w' v.ownBlock) : OpP w' base v' (R ++ [o]) (fun j => if j = R.length then u else U j) := by
  obtain ⟨zs, ov, _⟩ := h.ow
  have keep : ∀ {z : Value} {n : Nat} {L : List Value}, w.ownsRow base 5 1 z n L → w'.ownsRow base 5 1 z n L := fun hz =>
    ownsBlkP hz (fun k hk e => g6.block k hk (fun e2 => types_apartB (by decide) ov hz k e2.symm e.symm))
  refine ⟨by rw [zl_snoc]; exact o6, fun j hj => ?_⟩
  rw [List.length_append, List.length_singleton] at hj
  by_cases e : j < R.length
  · rw [if_neg (by omega), List.getD_eq_getElem?_getD, List.getElem?_append_left e, ← List.getD_eq_getElem?_getD]
    exact keep (h.inn j e)
  · have e2 : j = R.length := by omega
    subst e2
    rw [if_pos rfl, show (R ++ [o]).getD R.length default = o by simp]
    exact keep hu
/-- Amid a round of the draw: the source, the list, the box with the operation. -/
structure RP (w W : World) (c : Value) (xs : List Int) (st : St) (p : Int) (ov : Value) (R : List SPathOp) (bx : Nat) (o : SPathOp) (u : Value) : Prop where
  dz : Dz W w.heap.size c xs st p
  so : ∃ U, OpP W (w.heap.size + 1) ov R U
  nb : ov.ownBlock ≠ some bx
  bk : W.heap[bx]? = some (.cells #[.int .i64 o.f0, .int .i64 o.f1, .int .i64 o.f2, u] 34 (0, 0))
  du : W.ownsRow (w.heap.size + 1) 5 1 u o.f3.length (o.f3.map (Value.int .u8))
  bl : Below w.heap.size w W
  bb : w.heap.size < bx
section
variable {w W W' : World} {c : Value} {xs : List Int} {st st' : St} {p p' : Int} {ov : Value} {R : List SPathOp} {bx : Nat} {o : SPathOp} {u : Value}
theorem RP.size (h : RP w W c xs st p ov R bx o u) : w.heap.size + 1 ≤ W.heap.size ∧ bx < W.heap.size :=
  ⟨h.dz.lt, (Array.getElem?_eq_some_iff.1 h.bk).1⟩
theorem RP.mono (h : RP w W c xs st p ov R bx o u) (hq : p ≤ p') : RP w W c xs st p' ov R bx o u := ⟨h.dz.mono hq, h.so, h.nb, h.bk, h.du, h.bl, h.bb⟩
theorem RP.alloc (h : RP w W c xs st p ov R bx o u) (ob : Obj) : RP w (W.alloc ob) c xs st p ov R bx o u := by
  have b : Below W.heap.size W (W.alloc ob) := (Below.refl _ _).alloc (Nat.le_refl _) _
  obtain ⟨U, hS⟩ := h.so
  exact ⟨h.dz.alloc _, ⟨U, hS.below b⟩, h.nb, (heap_alloc_old W _ h.size.2).trans h.bk, owns_below h.du b, h.bl.alloc h.bl.size _, h.bb⟩
/-- A draw. -/
theorem RP.draw (h : RP w W c xs st p ov R bx o u) (hd : Dz W' w.heap.size c xs st' p') (hg : W.grownBy W' (some w.heap.size)) : RP w W' c xs st' p' ov R bx o u := by
  have hb := h.bb
  obtain ⟨U, hS⟩ := h.so
  exact ⟨hd, ⟨U, hS.drawn hg (by omega)⟩, h.nb, blk_drawnT h.bk hg (by omega), own_blkY h.du hg (fun e => by have := (h.du.lt _ e).1; omega), h.bl.grown hg h.bl.size (fun q hq => by have := Option.some.inj hq; omega), hb⟩
/-- A field of the box is written. -/
theorem RP.set (h : RP w W c xs st p ov R bx o u) (i : Nat) (x : Value) (o' : SPathOp) (u' : Value) (e : (#[.int .i64 o.f0, .int .i64 o.f1, .int .i64 o.f2, u] : Array Value).setIfInBounds i x = #[.int .i64 o'.f0, .int .i64 o'.f1, .int .i64 o'.f2, u'])
    (hu : W.ownsRow (w.heap.size + 1) 5 1 u' o'.f3.length (o'.f3.map (Value.int .u8))) : RP w (W.setCell ⟨bx, i, none⟩ x) c xs st p ov R bx o' u' := by
  have hb := h.bb
  have hg := grown_setCell W bx i x
  obtain ⟨U, hS⟩ := h.so
  refine ⟨h.dz.grown hg (fun k hk => by have := Option.some.inj hk; omega), ⟨U, hS.blk hg h.nb (Or.inr ⟨_, h.bk⟩)⟩, h.nb, ?_, own_typY hu hg h.bk (by decide), h.bl.grown hg h.bl.size (fun q hq => by have := Option.some.inj hq; omega), hb⟩
  rw [← e]
  exact bk_set h.bk i x
theorem RP.f0 (h : RP w W c xs st p ov R bx o u) : W.cell? ⟨bx, 0, none⟩ = some (.int .i64 o.f0) := (bk_cell h.bk 0).trans rfl
theorem RP.f1 (h : RP w W c xs st p ov R bx o u) : W.cell? ⟨bx, 1, none⟩ = some (.int .i64 o.f1) := (bk_cell h.bk 1).trans rfl
theorem RP.f2 (h : RP w W c xs st p ov R bx o u) : W.cell? ⟨bx, 2, none⟩ = some (.int .i64 o.f2) := (bk_cell h.bk 2).trans rfl
theorem RP.f3 (h : RP w W c xs st p ov R bx o u) : W.cell? ⟨bx, 3, none⟩ = some u := (bk_cell h.bk 3).trans rfl
theorem RP.free (h : RP w W c xs st p ov R bx o u) (i : Nat) : W.frozen? ⟨bx, i, none⟩ = false := bk_free h.bk i
/-- The operation is put onto the list. -/
theorem RP.push {W6 : World} {v6 : Value} {U : Nat → Value} (h : RP w W c xs st p ov R bx o u) (hS : OpP W (w.heap.size + 1) ov R U)
    (o6 : GOwns 34 4 W6 (w.heap.size + 1) v6 (zl SPathOp.c R U ++ [o.c u])) (g6 : (W.alloc (.cells #[.int .i64 o.f0, .int .i64 o.f1, .int .i64 o.f2, u] 34)).grownBy W6 ov.ownBlock) :
    (∃ U, OpP W6 (w.heap.size + 1) v6 (R ++ [o]) U) ∧ Dz W6 w.heap.size c xs st p ∧ Below w.heap.size w W6 := by
  have ba : Below W.heap.size W (W.alloc (.cells #[.int .i64 o.f0, .int .i64 o.f1, .int .i64 o.f2, u] 34)) := (Below.refl _ _).alloc (Nat.le_refl _) _
  have hl : ∀ k, ov.ownBlock = some k → w.heap.size < k := fun k hk => by have := (hS.lt k hk).1; omega
  have b3 := h.bl.alloc h.bl.size (.cells #[.int .i64 o.f0, .int .i64 o.f1, .int .i64 o.f2, u] 34)
  exact ⟨⟨_, (hS.below ba).push o u (owns_below h.du ba) o6 g6⟩, (h.dz.alloc _).grown g6 hl, b3.grown g6 b3.size (fun t ht => by have := hl t ht; omega)⟩
end
theorem al_oldY {w : World} {b : Nat} {o : Obj} (h : w.heap[b]? = some o) (o2 : Obj) : (w.alloc o2).heap[b]? = some o := (heap_alloc_old w o2 (Array.getElem?_eq_some_iff.1 h).1).trans h
theorem grown_far {a b c : World} {r : Option Nat} {k : Nat} (h : a.grownBy b r) (g : b.grownBy c (some k)) (hk : a.heap.size ≤ k) : a.grownBy c r :=
  ⟨g.os.trans h.os, g.tape.trans h.tape, g.output.trans h.output, Nat.le_trans h.size g.size, fun i hi hr => (g.block i (Nat.lt_of_lt_of_le hi h.size) (fun e => by have := Option.some.inj e; omega)).trans (h.block i hi hr)⟩
/-- A table that was made ahead of a draw. -/
theorem tabY {W W' : World} {g : Nat} {cs : Array Value} {T : TypeId} (h : W.heap.size ≠ g) (hg : (W.alloc (.cells cs T)).grownBy W' (some g)) (k : Nat) : W'.cell? ⟨W.heap.size, k, none⟩ = cs[k]? := by
  rw [bk_cell (blk_drawnT (heap_alloc_new W (.cells cs T)) hg h)]
theorem tabY3 (k : Int) (h0 : 0 ≤ k) (h1 : k < 3) : (#[.int .i64 (-1), .int .i64 2000, .int .i64 2001] : Array Value)[k.toNat]? = some (.int .i64 (([-1, 2000, 2001] : List Int).getD k.toNat 0)) := by
  obtain rfl | rfl | rfl : k = 0 ∨ k = 1 ∨ k = 2 := by omega
  all_goals rfl
theorem tabY4 (k : Int) (h0 : 0 ≤ k) (h1 : k < 4) : (#[.int .i64 (-1), .int .i64 255, .int .i64 256, .int .i64 7] : Array Value)[k.toNat]? = some (.int .i64 (([-1, 255, 256, 7] : List Int).getD k.toNat 0)) := by
  obtain rfl | rfl | rfl | rfl : k = 0 ∨ k = 1 ∨ k = 2 ∨ k = 3 := by omega
  all_goals rfl
def tabY7 : Array Value := #[.int .i64 1, .int .i64 1, .int .i64 2, .int .i64 2, .int .i64 2, .int .i64 3, .int .i64 4]
theorem tabY7_at (k : Int) (h0 : 0 ≤ k) (h1 : k < 7) : tabY7[k.toNat]? = some (.int .i64 (k7.getD k.toNat 0)) := by
  obtain rfl | rfl | rfl | rfl | rfl | rfl | rfl : k = 0 ∨ k = 1 ∨ k = 2 ∨ k = 3 ∨ k = 4 ∨ k = 5 ∨ k = 6 := by omega
  all_goals rfl
theorem k7_ok (k : Int) (h0 : 0 ≤ k) (h1 : k < 7) : 1 ≤ k7.getD k.toNat 0 ∧ k7.getD k.toNat 0 ≤ 4 := by
  obtain rfl | rfl | rfl | rfl | rfl | rfl | rfl : k = 0 ∨ k = 1 ∨ k = 2 ∨ k = 3 ∨ k = 4 ∨ k = 5 ∨ k = 6 := by omega
  all_goals decide
theorem pA_if (xs : List Int) (srv : Bool) (ad : Int) (s s1 : St) (b : Bool) (eb : b = (nextV xs 8 s == 8 - 1)) (e1 : s1 = nextS xs 8 s) : pA xs srv ad s = if (b && srv) = true then (nextV xs 4 s1, nextS xs 4 s1) else (ad, s1) := by
  unfold pA
  rw [← e1]
  have : (nextV xs 8 s = 7 ∧ srv = true) = ((b && srv) = true) := by rw [eb]; simp
  simp only [this]
theorem pB_if (xs : List Int) (ad : Int) (s s2 : St) (kk n : Int) (ek : kk = k7.getD (nextV xs 7 s).toNat 0) (en : n = nextV xs 600 (nextS xs 7 s)) (e2 : s2 = nextS xs 600 (nextS xs 7 s)) :
    pB xs ad s = if 3 ≤ kk then (⟨kk, n, ad, [nextV xs 5 s2, 0, 0, 0, 0, 0, 0, 1]⟩, nextS xs 5 s2) else (⟨kk, n, ad, []⟩, s2) := by
  unfold pB
  rw [← ek, ← en, ← e2]
theorem pC_if (xs : List Int) (o : SPathOp) (s s1 : St) (k : Int) (ek : k = nextV xs 60 s) (e1 : s1 = nextS xs 60 s) :
    pC xs o s = if k = 0 then (⟨o.f0, ([-1, 2000, 2001] : List Int).getD (nextV xs 3 s1).toNat 0, o.f2, o.f3⟩, nextS xs 3 s1)
      else if k = 1 then (⟨o.f0, o.f1, ([-1, 255, 256, 7] : List Int).getD (nextV xs 4 s1).toNat 0, o.f3⟩, nextS xs 4 s1)
      else if k = 2 then (⟨o.f0, o.f1, o.f2, bysV xs (nextS xs 10 s1) (nextV xs 10 s1).toNat⟩, bysS xs (nextS xs 10 s1) (nextV xs 10 s1).toNat)
      else if k = 3 then (⟨nextV xs 7 s1 - 1, o.f1, o.f2, o.f3⟩, nextS xs 7 s1)
      else (o, s1) := by
  unfold pC
  rw [← ek, ← e1]
theorem pLp_next (xs : List Int) (srv : Bool) (s0 : St) (i : Nat) (ad aA : Int) (s sA sB sC : St) (oB oC : SPathOp) (ea : ad = (pLp xs srv s0 i).2.1) (es : s = (pLp xs srv s0 i).2.2) (eA : (aA, sA) = pA xs srv ad s) (eB : (oB, sB) = pB xs aA sA) (eC : (oC, sC) = pC xs oB sB) : pLp xs srv s0 (i + 1) = ((pLp xs srv s0 i).1 ++ [oC], aA, sC) := by
  rw [pLp_succ, ← ea, ← es]
  have e : pOp xs srv ad s = (oC, aA, sC) := by
    unfold pOp
    rw [← eA]
    dsimp only
    rw [← eB]
    dsimp only
    rw [← eC]
  rw [e]
end Go.Proofs.Ytdoglkjhmaiknaa

namespace Go.Proofs.Ytdoglkjhmaiknaa
open Go
set_option linter.unusedVariables false

section
variable {P : Program} {ops : Array Oper} {Q : Exit → Act → World → Prop} {md : Region.Mode}

/-- Each operation waits for earlier ones alone. -/
def early (ops : Array Oper) : Bool := (List.range ops.size).all fun j => match ops[j]? with
  | some o => o.after.all fun e => decide (e.on < j)
  | none => true
theorem early_spec (h : early ops = true) {j : Nat} {o : Oper} (ho : ops[j]? = some o) : ∀ e ∈ o.after, e.on < j := by
  have hj : j < ops.size := (Array.getElem?_eq_some_iff.1 ho).1
  have := List.all_eq_true.1 h j (List.mem_range.2 hj)
  rw [ho] at this
  intro e he
  simpa using Array.all_eq_true_iff_forall_mem.1 this e he
theorem getD_in {l : Array Bool} {j : Nat} (h : j < l.size) (b c : Bool) : l.getD j b = l.getD j c := by simp [Array.getD, h]
/-- Nothing may come up: all have come up. -/
theorem all_of_ready {l : Array Bool} (he : early ops = true) (hs : l.size = ops.size) (hr : Region.ready md ops l = []) : ∀ j, j < ops.size → l.getD j false = true := by
  intro j
  induction j using Nat.strongRecOn with
  | ind j ih =>
    intro hj
    cases h : l.getD j false with
    | true => rfl
    | false =>
      exfalso
      have hm : j ∈ Region.ready md ops l := by
        refine mem_ready.2 ⟨by rw [getD_in (by omega) true false]; exact h, ops[j], Array.getElem?_eq_getElem hj, fun e hem _ => ?_⟩
        have hlt := early_spec he (Array.getElem?_eq_getElem hj) e hem
        exact ih e.on hlt (by omega)
      rw [hr] at hm
      cases hm
theorem count_set {l : Array Bool} {j : Nat} (hj : j < l.size) (h : l.getD j true = false) : (l.setIfInBounds j true).toList.count false + 1 = l.toList.count false := by
  have hx : l.toList[j]? = some false := by
    have h2 : l[j] = false := by simpa [Array.getD, hj] using h
    rw [Array.getElem?_toList, Array.getElem?_eq_getElem hj, h2]
  rw [Array.toList_setIfInBounds]
  generalize l.toList = L at hx
  clear h hj
  induction L generalizing j with
  | nil => simp at hx
  | cons b r ih =>
    cases j with
    | zero =>
      simp only [List.getElem?_cons_zero, Option.some.injEq] at hx
      subst hx
      simp
    | succ j =>
      rw [List.getElem?_cons_succ] at hx
      have := ih hx
      cases b <;> simp <;> omega
/-- A region that draws its order, by what holds amid it: each operation is carried out once, whatever has come up ahead of it. -/
theorem any_inv (Inv : (Nat → Bool) → Act → World → Prop) (he : early ops = true)
    (step : ∀ (f : Nat → Bool) (a : Act) (w : World) (j : Nat) (o : Oper), Inv f a w → ops[j]? = some o → f j = false → (∀ e ∈ o.after, Region.binds md e = true → f e.on = true) →
      ∀ K : Act → World → Prop, (∀ a' w', Inv (fun i => i == j || f i) a' w' → K a' w') → if Region.wanted o (yielded ops a.tmps) = true then Oper.wp P o a w K Q else K (a.put o.dst undef) w)
    (done : ∀ (f : Nat → Bool) (a : Act) (w : World), Inv f a w → (∀ j, j < ops.size → f j = true) → Q .normal a w) :
    ∀ (n : Nat) (l : Array Bool) (a : Act) (w : World), l.size = ops.size → l.toList.count false ≤ n → Inv (fun i => l.getD i false) a w → wpAny P md ops Q n l a w := by
  intro n
  induction n with
  | zero =>
    intro l a w hs hc hi
    have hr : Region.ready md ops l = [] := by
      cases h : Region.ready md ops l with
      | nil => rfl
      | cons j r =>
        exfalso
        have hj : j ∈ Region.ready md ops l := by rw [h]; exact List.mem_cons_self ..
        obtain ⟨h1, o, ho, _⟩ := mem_ready.1 hj
        have hjl : j < l.size := by rw [hs]; exact (Array.getElem?_eq_some_iff.1 ho).1
        have := count_set hjl h1
        omega
    exact ⟨hr, done _ a w hi (all_of_ready he hs hr)⟩
  | succ n ih =>
    intro l a w hs hc hi
    refine ⟨fun hr => done _ a w hi (all_of_ready he hs hr), fun j hj => ?_⟩
    obtain ⟨h1, o, ho, hall⟩ := mem_ready.1 hj
    have hjl : j < l.size := by rw [hs]; exact (Array.getElem?_eq_some_iff.1 ho).1
    refine wpOp_step ho (fun K hK => step _ a w j o hi ho (by show l.getD j false = false; rw [getD_in hjl false true]; exact h1) hall K (fun a' w' hi' => hK a' w' (ih _ a' w' (by simpa using hs) (by have := count_set hjl h1; omega) ?_)))
    have e : (fun i => (l.setIfInBounds j true).getD i false) = fun i => i == j || l.getD i false := by
      funext i
      by_cases hij : i = j
      · subst hij; simp [Array.getD, hjl]
      · have : (i == j) = false := by simpa using hij
        rw [this, Bool.false_or]
        by_cases hi2 : i < l.size
        · simp [Array.getD, hi2, Ne.symm hij]
        · simp [Array.getD, hi2]
    rw [e]
    exact hi'
theorem region_I {id : Nat} {a : Act} {w : World} (Inv : (Nat → Bool) → Act → World → Prop) (hm : P.follows .mixedOrders = true) (he : early ops = true)
    (step : ∀ (f : Nat → Bool) (a : Act) (w : World) (j : Nat) (o : Oper), Inv f a w → ops[j]? = some o → f j = false → (∀ e ∈ o.after, Region.binds .any e = true → f e.on = true) →
      ∀ K : Act → World → Prop, (∀ a' w', Inv (fun i => i == j || f i) a' w' → K a' w') → if Region.wanted o (yielded ops a.tmps) = true then Oper.wp P o a w K Q else K (a.put o.dst undef) w)
    (done : ∀ (f : Nat → Bool) (a : Act) (w : World), Inv f a w → (∀ j, j < ops.size → f j = true) → Q .normal a w)
    (h : Inv (fun _ => false) a w.drew) : (Code.region id ops true).wp P Q a w := by
  refine wp_region_any hm (any_inv Inv he step done _ _ _ _ (by simp) (by simp) ?_)
  have e : (fun i => (Array.replicate ops.size false).getD i false) = fun _ => false := by
    funext i
    simp only [Array.getD]
    split <;> simp
  rw [e]
  exact h
end
end Go.Proofs.Ytdoglkjhmaiknaa
