import Derived.Test.YtdommkpeilmdnaaDoorFhD
import Derived.Test.YtdommkpeilmdnaaDoorHyE
import Derived.Test.YtdommkpeilmdnaaDoorFhT
import Derived.Deep.QuietTactic
import Derived.Deep.CutRange
import Derived.Test.YtdommkpeilmdnaaDoorFlApp
import Derived.Test.YtdommkpeilmdnaaDoorHfP
import Derived.Test.YtdommkpeilmdnaaDoorHfQ
import Derived.Deep.RegionHeld3
namespace Go.Proofs.YtdommkpeilmdnaaDoor
open Go.RowKit
set_option linter.unusedVariables false

theorem sameU (va vb : Value) (xs : List Int) (w : World) (ha : Row w .u8 va xs) (hb : Row w .u8 vb xs) :
    Calls Tryd.prog 29 #[va, vb] w fun e w' => e = .returned (.bool true) ∧ w' = w := by
  have c1 := conv_anyU (P := Tryd.prog) Tryd.underlying22 Tryd.underlying5 Tryd.underlying9 ha
  have c2 := conv_anyU (P := Tryd.prog) Tryd.underlying22 Tryd.underlying5 Tryd.underlying9 hb
  clear ha hb
  generalize strOfNums xs = s at c1 c2
  have ht : (s.toList == s.toList) = true := by simp
  go_enter Tryd.func29, Tryd.ntmps29
  go_wp2
  go_ret
  exact ⟨rfl, rfl⟩
theorem srow_atU {w : World} {sa : Option Addr} {m sc : Nat} {L : List SSetting} (h : GRow 2 w (.slice sa m sc) (SSetting.L L)) (j : Nat) (hj : j < L.length) :
    ∃ b off, sa = some ⟨b, off, none⟩ ∧ b < w.heap.size ∧ w.cell? ⟨b, off + j * 2, none⟩ = some (.int .i64 (L.getD j default).f0) ∧ w.cell? ⟨b, off + j * 2 + 1, none⟩ = some (.int .i64 (L.getD j default).f1) := by
  obtain ⟨b, off, cap, e, hb, hc⟩ := h.at' (by rw [List.length_map]; omega)
  injection e with e1 e2 e3
  have t := hc j (by rw [List.length_map]; exact hj)
  rw [SSetting.at L j hj] at t
  exact ⟨b, off, e1, hb, t 0 (by decide), t 1 (by decide)⟩
set_option maxRecDepth 20000 in
set_option maxHeartbeats 2000000 in
theorem sameHy (f : HF) (d s d2 s2 : Value) (w : World) (hd : Row w .u8 d f.d) (hs : GRow 2 w s (SSetting.L f.s)) (hd2 : Row w .u8 d2 f.d) (hs2 : GRow 2 w s2 (SSetting.L f.s)) (hl : f.s.length ≤ 16384) :
    Calls Tryd.prog 9 #[hV f d s, hV f d2 s2] w fun e w' => e = .returned (.bool true) ∧ Below w.heap.size w w' := by
  have B2 : Below w.heap.size w ((w.alloc (.cells #[.int .i64 f.k, .int .i64 f.a, d, s] 26)).alloc (.cells #[.int .i64 f.k, .int .i64 f.a, d2, s2] 26)) := ((Below.refl _ _).alloc (Nat.le_refl _) _).alloc (by simp) _
  have S2 := sameU d d2 f.d _ (hd.below B2) (hd2.below B2)
  have G1 := hs.below B2
  have G2 := hs2.below B2
  obtain ⟨k, a, D, L⟩ := f
  unfold hV
  simp only at *
  obtain ⟨da, dc, ed⟩ := hd.form
  obtain ⟨da2, dc2, ed2⟩ := hd2.form
  obtain ⟨sa, sc, es⟩ := hs.form
  obtain ⟨sa2, sc2, es2⟩ := hs2.form
  obtain ⟨m, em⟩ : ∃ m, m = L.length := ⟨_, rfl⟩
  rw [List.length_map, ← em] at es es2
  rw [← em] at hl
  generalize D.length = dn at ed ed2
  have hk : (k == k) = true := by simp
  have ha : (a == a) = true := by simp
  have hm : ((m : Int) == (m : Int)) = true := by simp
  subst ed ed2 es es2
  have HH : Hid _ := And.intro B2 (And.intro S2 (And.intro G1 (And.intro G2 em)))
  clear B2 S2 G1 G2 hd hd2 hs hs2 em
  go_enter Tryd.func9, Tryd.ntmps9
  go_wp2_with fail
  go_at_call 29
  refine HH.out.2.1.mono ?_
  rintro e w1 ⟨rfl, hw1⟩
  subst w1
  go_wp2_with fail
  go_loopw [5] (fun i wr => ∃ j : Nat, j ≤ m ∧ i = .int .i64 (j : Int) ∧ Below (w.heap.size + 2) ((w.alloc (.cells #[.int .i64 k, .int .i64 a, .slice da dn dc, .slice sa m sc] 26)).alloc (.cells #[.int .i64 k, .int .i64 a, .slice da2 dn dc2, .slice sa2 m sc2] 26)) wr) (fun i _ => m - (intOf i).toNat)
  case atStart => exact ⟨0, by omega, rfl, Below.refl _ _⟩
  case round =>
    obtain ⟨j, hj, rfl, hbw⟩ := hrel
    have hz2 : ((w.alloc (.cells #[.int .i64 k, .int .i64 a, .slice da dn dc, .slice sa m sc] 26)).alloc (.cells #[.int .i64 k, .int .i64 a, .slice da2 dn dc2, .slice sa2 m sc2] 26)).heap.size = w.heap.size + 2 := by simp
    have F1 : fB wr w.heap.size k a (.slice da dn dc) (.slice sa m sc) := (hbw.block w.heap.size (by omega)).trans (blk_allocT (heap_alloc_new w _) _)
    have F2 : fB wr (w.heap.size + 1) k a (.slice da2 dn dc2) (.slice sa2 m sc2) := (hbw.block (w.heap.size + 1) (by omega)).trans (by have := heap_alloc_new (w.alloc (.cells #[.int .i64 k, .int .i64 a, .slice da dn dc, .slice sa m sc] 26)) (.cells #[.int .i64 k, .int .i64 a, .slice da2 dn dc2, .slice sa2 m sc2] 26); rwa [show (w.alloc (.cells #[.int .i64 k, .int .i64 a, .slice da dn dc, .slice sa m sc] 26)).heap.size = w.heap.size + 1 by simp] at this)
    have x3 := F1.c3
    have y3 := F2.c3
    have x3d : wr.drew.cell? ⟨w.heap.size, 3, none⟩ = some (.slice sa m sc) := F1.c3
    have y3d : wr.drew.cell? ⟨w.heap.size + 1, 3, none⟩ = some (.slice sa2 m sc2) := F2.c3
    have HB : Hid _ := And.intro hbw hz2
    by_cases hlt : j < m
    · have hlt' : (j : Int) < m := by omega
      have bw : Below ((w.alloc (.cells #[.int .i64 k, .int .i64 a, .slice da dn dc, .slice sa m sc] 26)).alloc (.cells #[.int .i64 k, .int .i64 a, .slice da2 dn dc2, .slice sa2 m sc2] 26)).heap.size ((w.alloc (.cells #[.int .i64 k, .int .i64 a, .slice da dn dc, .slice sa m sc] 26)).alloc (.cells #[.int .i64 k, .int .i64 a, .slice da2 dn dc2, .slice sa2 m sc2] 26)) wr := by rw [hz2]; exact hbw
      obtain ⟨b, off, rfl, hb, c0, c1⟩ := srow_atU (HH.out.2.2.1.below bw) j (by have := HH.out.2.2.2.2; omega)
      obtain ⟨b2, off2, rfl, hb2, e0, e1⟩ := srow_atU (HH.out.2.2.2.1.below bw) j (by have := HH.out.2.2.2.2; omega)
      generalize (L.getD j default).f0 = A0 at *
      generalize (L.getD j default).f1 = A1 at *
      have c0d : wr.drew.cell? ⟨b, off + j * 2, none⟩ = some (.int .i64 A0) := c0
      have c1d : wr.drew.cell? ⟨b, off + j * 2 + 1, none⟩ = some (.int .i64 A1) := c1
      have e0d : wr.drew.cell? ⟨b2, off2 + j * 2, none⟩ = some (.int .i64 A0) := e0
      have e1d : wr.drew.cell? ⟨b2, off2 + j * 2 + 1, none⟩ = some (.int .i64 A1) := e1
      have q0 : (A0 == A0) = true := by simp
      have q1 : (A1 == A1) = true := by simp
      clear F1 F2 hbw hz2 bw hb hb2
      go_wp2_with fail
      go_quiet (fail)
      go_wp2
      go_roundw
      case rel => exact ⟨j + 1, by omega, by go_num, ⟨HB.out.1.os, HB.out.1.tape, HB.out.1.output, HB.out.1.size, HB.out.1.block⟩⟩
      case measure => simp [intOf]; omega
    · obtain rfl : j = m := by omega
      clear F1 F2 hbw hz2
      go_wp2
      go_ret
      exact ⟨rfl, HH.out.1.trans (HB.out.1.mono (by omega))⟩
end Go.Proofs.YtdommkpeilmdnaaDoor

namespace Go.Proofs.YtdommkpeilmdnaaDoor
open Go.RowKit
set_option linter.unusedVariables false

/-- Where the answer of an append lies: where it lay, or in a block of its own. -/
theorem append_place {P : Program} (w : World) (base : Nat) (t ty e : TypeId) (i : TypeInfo) (z : Value) (size bytes : Nat) (ht : P.underlying t = some (.slice e)) (hi : P.info? e = some i) (hz : i.zero = some z)
    (hsize : i.size = size) (hby : i.bytes = bytes) (hzs : z.cells.size = size) (hsz : 0 < size)
    (v : Value) (n : Nat) (xs : List Value) (hown : w.ownsRow base e size v n xs)
    (a : Addr) (m c : Nat) (news : List Value) (hl : news.length = m * size) (hnews : ∀ j u, news[j]? = some u → w.cell? (a.add j) = some u) (h1 : ∀ u ∈ news, u.oneCell' = true)
    (h63 : n + m ≤ maxLen) (hbytes : (n + m) * bytes ≤ 140737488355328) (hm0 : 0 < m) (v' : Value) (w' : World)
    (hrun : (Builtin.append_ #[t, t] ty #[v, .slice (some a) m c]).run P w = .ok v' w') : v'.ownBlock = v.ownBlock ∨ v'.ownBlock = some w.heap.size := by
  subst hsize
  subst hby
  have hsmall : n + m ≤ 9223372036854775807 := by simp only [maxLen] at h63; omega
  rcases hown.2 with ⟨rfl, rfl⟩ | ⟨g, cap, cur, rfl, hbg, hg, hnc, hcm, hcs, htake⟩
  · have hr := run_append_nil (P := P) w t ty e i z ht hi hz a m c news hl hnews (by omega) (by omega) (by have hb := hbytes; simp only [Nat.zero_add] at hb; omega)
    rw [hr] at hrun
    cases hrun
    exact Or.inr rfl
  · by_cases hroom : n + m ≤ cap
    · have hfit : n * i.size + news.length ≤ cur.size := by rw [hl, hcs, ← Nat.add_mul]; exact Nat.mul_le_mul_right _ hroom
      have hr := run_append_room (P := P) w t ty e i ht hi g n cap cur hg a m c news hl hnews h1 hroom hfit
      rw [hr] at hrun
      cases hrun
      exact Or.inl rfl
    · have holds : ∀ j u, xs[j]? = some u → w.cell? ((⟨g, 0, none⟩ : Addr).add j) = some u := hown.cells (g := g) rfl
      have hr := run_append_grow (P := P) w t ty e i z ht hi hz ⟨g, 0, none⟩ n cap xs hown.1 holds a m c news hl hnews (by omega) (by omega) (growslice_fits (by omega) hbytes)
      rw [hr] at hrun
      cases hrun
      exact Or.inr rfl
theorem run_append_flatP {w : World} (tA ty T : TypeId) (htA : Tryd.prog.underlying tA = some (.slice T)) (i0 : TypeInfo) (z : Value) (K B : Nat) (hi : Tryd.prog.info? T = some i0) (hz0 : i0.zero = some z) (hz1 : i0.size = K) (hz2 : i0.bytes = B) (hzc : z.cells.size = K) (hK : 0 < K) (hB : B ≤ 128)
    (base : Nat) (v : Value) (R : List (List Value)) (hR : FlatK K R) (hown : GOwns T K w base v R) (v2 : Value) (S : List (List Value)) (hS : FlatK K S) (hrow : GRow K w v2 S) (h63 : R.length + S.length ≤ 1099511627776) (hbase : base ≤ w.heap.size) :
    ∃ v' w', (Builtin.append_ #[tA, tA] ty #[v, v2]).run Tryd.prog w = .ok v' w' ∧ GOwns T K w' base v' (R ++ S) ∧ w.grownBy w' v.ownBlock ∧ (v'.ownBlock = v.ownBlock ∨ v'.ownBlock = some w.heap.size) := by
  obtain ⟨v', w', hr, h2, h3⟩ := run_append_flat tA ty T htA i0 z K B hi hz0 hz1 hz2 hzc hK hB base v R hR hown v2 S hS hrow h63 hbase
  refine ⟨v', w', hr, h2, h3, ?_⟩
  by_cases h0 : 0 < S.length
  · obtain ⟨b, off, cap, rfl, hb, hc⟩ := hrow.at' h0
    exact append_place (P := Tryd.prog) w base tA ty T i0 z K B htA hi hz0 hz1 hz2 hzc hK v R.length R.flatten (hown.flat hK hR) ⟨b, off, none⟩ S.length cap S.flatten (flat_len hS) (fun j u hj => flat_read hK hS hc j u hj) (flat_one hS) (by unfold maxLen; omega) (Nat.le_trans (Nat.mul_le_mul h63 hB) (by decide)) h0 v' w' hr
  · have hn : S = [] := List.eq_nil_of_length_eq_zero (by omega)
    subst hn
    obtain ⟨ao, cap, rfl⟩ := hrow.form
    rw [show ([] : List (List Value)).length = 0 from rfl, run_append_owned_zero (P := Tryd.prog) (w := w) base tA ty T i0 K htA hi v R.length R.flatten ao cap (hown.flat hK hR)] at hr
    cases hr
    exact Or.inl rfl
theorem wpList_append_flatP {w : World} {ops : Array Oper} {rest : List Oper} {o : Oper} {a : Act} {Q : Exit → Act → World → Prop} (hgd : o.guard = none) (p q : Operand) (tA T : TypeId) (htA : Tryd.prog.underlying tA = some (.slice T)) (z : Value) (K B : Nat) (hinfo : (Tryd.prog.info? T).map (fun i => (i.zero, i.size, i.bytes)) = some (some z, K, B)) (hzc : z.cells.size = K) (hK : 0 < K) (hB : B ≤ 128)
    (ho : o.op = .call { callee := .builtin .append, args := #[p, q], argTypes := #[tA, tA] })
    (base : Nat) (v : Value) (R : List (List Value)) (hR : FlatK K R) (hp : a.eval p = v) (hown : GOwns T K w base v R) (v2 : Value) (S : List (List Value)) (hS : FlatK K S) (hq : a.eval q = v2) (hrow : GRow K w v2 S) (h63 : R.length + S.length ≤ 1099511627776) (hbase : base ≤ w.heap.size)
    (h : ∀ v' w', GOwns T K w' base v' (R ++ S) → w.grownBy w' v.ownBlock → (v'.ownBlock = v.ownBlock ∨ v'.ownBlock = some w.heap.size) → wpList Tryd.prog ops Q rest (a.put o.dst v') w') :
    wpList Tryd.prog ops Q (o :: rest) a w := by
  obtain ⟨i0, hi, hz0, hz1, hz2⟩ := info_parts hinfo
  obtain ⟨v', w', hr, h2, h3, h4⟩ := run_append_flatP tA o.type T htA i0 z K B hi hz0 hz1 hz2 hzc hK hB base v R hR hown v2 S hS hrow h63 hbase
  refine wpList_plain hgd fun K hK => ?_
  unfold Oper.wp
  simp [execOp, ho, resolve, invoke, builtin, hp, hq, hr, Result.andThen]
  exact hK _ _ (h v' w' h2 h3 h4)
theorem wpList_append_rowP {w : World} {ops : Array Oper} {rest : List Oper} {o : Oper} {a : Act} {Q : Exit → Act → World → Prop} (hgd : o.guard = none) (p q : Operand)
    (ho : o.op = .call { callee := .builtin .append, args := #[p, q], argTypes := #[22, 22] })
    (base : Nat) (v : Value) (n : Nat) (xs : List Int) (hp : a.eval p = v) (hown : w.ownsRow base 5 1 v n (xs.map (Value.int .u8)))
    (v2 : Value) (ys : List Int) (hq : a.eval q = v2) (hrow : Row w .u8 v2 ys) (h63 : n + ys.length ≤ 140737488355328) (hbase : base ≤ w.heap.size)
    (h : ∀ v' w', w'.ownsRow base 5 1 v' (n + ys.length) ((xs ++ ys).map (Value.int .u8)) → w.grownBy w' v.ownBlock → (v'.ownBlock = v.ownBlock ∨ v'.ownBlock = some w.heap.size) → wpList Tryd.prog ops Q rest (a.put o.dst v') w') :
    wpList Tryd.prog ops Q (o :: rest) a w := by
  obtain ⟨v', w', hr, h2, h3⟩ := run_append_row o.type base v n xs hown v2 ys hrow h63 hbase
  have h4 : v'.ownBlock = v.ownBlock ∨ v'.ownBlock = some w.heap.size := by
    obtain ⟨i0, hi, hz0, hz1, hz2⟩ := info_parts infoBy
    by_cases h0 : 0 < ys.length
    · obtain ⟨b, off, cap, rfl, hb, hc⟩ := hrow.at h0
      refine append_place (P := Tryd.prog) w base 22 o.type 5 i0 (.int .u8 0) 1 1 Tryd.underlying22 hi hz0 hz1 hz2 rfl (by decide) v n (xs.map (Value.int .u8)) hown ⟨b, off, none⟩ ys.length cap (ys.map (Value.int .u8)) (by simp) (fun j u hj => ?_) (fun u hu => ?_) (by unfold maxLen; omega) (by omega) h0 v' w' hr
      · have hj' : j < ys.length := by
          have := (List.getElem?_eq_some_iff.1 hj).1
          rwa [List.length_map] at this
        rw [Go.WideShapes.add_plain, hc j hj']
        rw [List.getElem?_map, List.getElem?_eq_getElem hj'] at hj
        simp only [Option.map_some, Option.some.injEq] at hj
        rw [← hj]
        simp [List.getD, hj']
      · obtain ⟨z, _, rfl⟩ := List.mem_map.1 hu
        rfl
    · have hn : ys = [] := List.eq_nil_of_length_eq_zero (by omega)
      subst hn
      obtain ⟨ao, cap, rfl⟩ := hrow.form
      obtain ⟨i0, hi, hz0, hz1, hz2⟩ := info_parts infoBy
      rw [show ([] : List Int).length = 0 from rfl, run_append_owned_zero (P := Tryd.prog) (w := w) base 22 o.type 5 i0 1 Tryd.underlying22 hi v n (xs.map (Value.int .u8)) ao cap hown] at hr
      cases hr
      exact Or.inl rfl
  refine wpList_plain hgd fun K hK => ?_
  unfold Oper.wp
  simp [execOp, ho, resolve, invoke, builtin, hp, hq, hr, Result.andThen]
  exact hK _ _ (h v' w' h2 h3 h4)
end Go.Proofs.YtdommkpeilmdnaaDoor

namespace Go.Proofs.YtdommkpeilmdnaaDoor
open Go.RowKit
set_option linter.unusedVariables false

theorem be_bytesU (v : Int) (n : Nat) : Bytes (be v n) := by
  induction n generalizing v with
  | zero => intro x hx; simp [be] at hx
  | succ n ih =>
    intro x hx
    unfold be at hx
    rcases List.mem_append.1 hx with h | h
    · exact ih _ x h
    · simp at h; omega
theorem put_headU (v : Int) (h : okv v) : 0 ≤ (putv v).getD 0 0 ∧ (putv v).getD 0 0 < 256 := by
  rcases range_of v h with r | r | r | r
  · exact (head_form_1 v r.1 r.2).2
  · exact (head_form_2 v r.1 r.2).2
  · exact (head_form_4 v r.1 r.2).2
  · exact (head_form_8 v r.1 r.2).2
theorem putv_bytesU (v : Int) (h : okv v) : Bytes (putv v) := by
  have hh := put_headU v h
  have hb := vsize_bd v h
  intro x hx
  have e : (putv v).getD 0 0 = (be v (vsize v).toNat).getD 0 0 + 64 * sform v := by
    unfold putv; rw [set_head _ _ (by rw [be_length]; omega)]
  unfold putv at hx
  rcases List.mem_or_eq_of_mem_set hx with h1 | h1
  · exact be_bytesU _ _ x h1
  · rw [← e] at h1; rw [h1]; exact hh
theorem bytes_app {A B : List Int} (a : Bytes A) (b : Bytes B) : Bytes (A ++ B) := fun x hx => by
  rcases List.mem_append.1 hx with h | h
  · exact a x h
  · exact b x h
theorem setB_bytes : ∀ L : List SSetting, (∀ x ∈ L, (0 ≤ x.f0 ∧ x.f0 ≤ 4611686018427387903) ∧ 0 ≤ x.f1 ∧ x.f1 ≤ 4611686018427387903) → Bytes (setB L)
  | [], _ => fun x hx => by simp [setB] at hx
  | x :: r, h => by
    have h1 := h x (List.mem_cons_self ..)
    exact bytes_app (bytes_app (putv_bytesU _ ⟨h1.1.1, h1.1.2⟩) (putv_bytesU _ ⟨h1.2.1, h1.2.2⟩)) (setB_bytes r fun y hy => h y (List.mem_cons_of_mem _ hy))
theorem hyBy_bytes (f : HF) (h : hyP f.k f.a f.d.length f.s) (hd : Bytes f.d) : Bytes (hyBy f) := by
  have h1 := h.1.1
  have h2 := h.1.2
  rw [hin_iff] at h1 h2
  have hf := plB_fit f h
  refine bytes_app (putv_bytesU _ ⟨h1.1, h1.2⟩) (bytes_app (putv_bytesU _ ⟨by omega, by omega⟩) ?_)
  unfold plB
  refine bytes_app (bytes_app ?_ (setB_bytes _ (sdP_mem _ h.2.1))) hd
  split
  · exact putv_bytesU _ ⟨h2.1, h2.2⟩
  · exact fun x hx => by simp at hx
/-- A frame with its two slices. -/
structure FE where
  f : HF
  d : Value
  s : Value
instance : Inhabited FE := ⟨⟨⟨0, 0, [], []⟩, .slice none 0 0, .slice none 0 0⟩⟩
def FE.c (x : FE) : List Value := [.int .i64 x.f.k, .int .i64 x.f.a, x.d, x.s]
abbrev FE.L (L : List FE) : List (List Value) := L.map FE.c
theorem FE.at (L : List FE) (j : Nat) (h : j < L.length) : (FE.L L).getD j [] = (L.getD j default).c := map_at _ L default j h
def aB (L : List FE) : List Int := (L.map fun x => hyBy x.f).flatten
theorem aB_snoc (L : List FE) (x : FE) : aB (L ++ [x]) = aB L ++ hyBy x.f := by simp [aB]
theorem aB_split (L : List FE) (j : Nat) (h : j < L.length) : aB L = aB (L.take j) ++ (hyBy (L.getD j default).f ++ aB (L.drop (j + 1))) := by
  have e : L = L.take j ++ (L.getD j default :: L.drop (j + 1)) := by
    rw [List.getD_eq_getElem?_getD, List.getElem?_eq_getElem h, Option.getD_some, ← List.drop_eq_getElem_cons h, List.take_append_drop]
  conv => lhs; rw [e]
  simp [aB]
theorem aB_take (L : List FE) (j : Nat) (h : j < L.length) : aB (L.take (j + 1)) = aB (L.take j) ++ hyBy (L.getD j default).f := by
  have e : L.take (j + 1) = L.take j ++ [L.getD j default] := by
    rw [List.getD_eq_getElem?_getD, List.getElem?_eq_getElem h, Option.getD_some, List.take_succ_eq_append_getElem h]
  rw [e, aB_snoc]
def FK (w : World) (X : Nat → Prop) (x : FE) : Prop :=
  Row w .u8 x.d x.f.d ∧ GRow 2 w x.s (SSetting.L x.f.s) ∧ (0 < x.f.d.length → ∀ j, x.d.ownBlock = some j → ¬ X j) ∧ (0 < x.f.s.length → ∀ j, x.s.ownBlock = some j → ¬ X j)
theorem FK.step {w w' : World} {X X' : Nat → Prop} {x : FE} (h : FK w X x) (hz : w.heap.size ≤ w'.heap.size) (hk : ∀ k, k < w.heap.size → ¬ X k → w'.heap[k]? = w.heap[k]?) (hX : ∀ k, X' k → X k ∨ w.heap.size ≤ k) : FK w' X' x := by
  obtain ⟨h1, h2, h3, h4⟩ := h
  refine ⟨?_, ?_, ?_, ?_⟩
  · rcases h1 with h1 | ⟨b, off, cap, e, hb, hcap, hc⟩
    · exact Or.inl h1
    · refine Or.inr ⟨b, off, cap, e, by omega, hcap, fun j hj => ?_⟩
      have q := hk b hb (h3 (by omega) b (by rw [e]; rfl))
      rw [← hc j hj]
      simp [World.cell?, q]
  · rcases h2 with h2 | ⟨b, off, cap, e, hb, hc⟩
    · exact Or.inl h2
    · refine Or.inr ⟨b, off, cap, e, by omega, fun j hj f hf => ?_⟩
      have q := hk b hb (h4 (by rw [List.length_map] at hj; omega) b (by rw [e]; rfl))
      rw [← hc j hj f hf]
      simp [World.cell?, q]
  · intro h0 j hj hx
    rcases hX j hx with h | h
    · exact h3 h0 j hj h
    · obtain ⟨b, off, cap, e, hb, _⟩ := h1.at h0
      rw [e] at hj
      have : b = j := Option.some.inj hj
      omega
  · intro h0 j hj hx
    rcases hX j hx with h | h
    · exact h4 h0 j hj h
    · obtain ⟨b, off, cap, e, hb, _⟩ := h2.at' (by rw [List.length_map]; exact h0)
      rw [e] at hj
      have : b = j := Option.some.inj hj
      omega
theorem FK.flat {w : World} {X : Nat → Prop} {x : FE} (h : FK w X x) : x.c.length = 4 ∧ ∀ v ∈ x.c, v.oneCell' = true := by
  refine ⟨rfl, fun v hv => ?_⟩
  obtain ⟨a1, c1, e1⟩ := h.1.form
  obtain ⟨a2, c2, e2⟩ := h.2.1.form
  simp only [FE.c, List.mem_cons, List.not_mem_nil, or_false] at hv
  rcases hv with rfl | rfl | rfl | rfl
  · rfl
  · rfl
  · rw [e1]; rfl
  · rw [e2]; rfl
theorem owns_belowU {w w' : World} {base e n : Nat} {v : Value} {xs : List Value} (h : w.ownsRow base e 1 v n xs) (hb : Below w.heap.size w w') : w'.ownsRow base e 1 v n xs := by
  refine h.kept (grownT_below hb none) ?_
  cases v.ownBlock with
  | none => exact Or.inl rfl
  | some j => exact Or.inr (by simp)
structure LI (w0 wr : World) (l al : Value) (L : List FE) (xs : List Int) : Prop where
  ol : GOwns 26 4 wr w0.heap.size l (FE.L L)
  oa : wr.ownsRow w0.heap.size 5 1 al xs.length (xs.map (Value.int .u8))
  bw : Below w0.heap.size w0 wr
  fk : ∀ x ∈ L, FK wr (fun j => l.ownBlock = some j ∨ al.ownBlock = some j) x
  ok : ∀ x ∈ L, hyP x.f.k x.f.a x.f.d.length x.f.s ∧ Bytes x.f.d
  ln : xs.length ≤ 65536
  ne : ∀ j, l.ownBlock = some j → al.ownBlock ≠ some j
theorem LI.flat {w0 wr : World} {l al : Value} {L : List FE} {xs : List Int} (I : LI w0 wr l al L xs) : FlatK 4 (FE.L L) := fun y hy => by
  obtain ⟨x, hx, rfl⟩ := List.mem_map.1 hy
  exact (I.fk x hx).flat
theorem LI.below {w0 wr wr' : World} {l al : Value} {L : List FE} {xs : List Int} (I : LI w0 wr l al L xs) (hb : Below wr.heap.size wr wr') : LI w0 wr' l al L xs :=
  ⟨I.ol.below hb, owns_belowU I.oa hb , I.bw.trans (hb.mono I.bw.size), fun x hx => (I.fk x hx).step hb.size (fun k hk _ => hb.block k hk) (fun k hk => Or.inl hk), I.ok, I.ln, I.ne⟩
theorem LI.lt {w0 wr : World} {l al : Value} {L : List FE} {xs : List Int} (I : LI w0 wr l al L xs) (j : Nat) (h : l.ownBlock = some j ∨ al.ownBlock = some j) : j < wr.heap.size := by
  obtain ⟨zs, ho, hz⟩ := I.ol
  rcases h with h | h
  · exact (ho.lt j h).2
  · exact (I.oa.lt j h).2
theorem LI.pushL {w0 wr wr' : World} {l l' al : Value} {L : List FE} {xs : List Int} {x : FE} (I : LI w0 wr l al L xs) (hf : FK wr (fun j => l.ownBlock = some j ∨ al.ownBlock = some j) x) (ho : hyP x.f.k x.f.a x.f.d.length x.f.s ∧ Bytes x.f.d)
    (o : GOwns 26 4 wr' w0.heap.size l' (FE.L L ++ FE.L [x])) (hg : wr.grownBy wr' l.ownBlock) (hp : l'.ownBlock = l.ownBlock ∨ l'.ownBlock = some wr.heap.size) : LI w0 wr' l' al (L ++ [x]) xs := by
  have hown := I.ol.ownU
  have hXX : ∀ k, (l'.ownBlock = some k ∨ al.ownBlock = some k) → (l.ownBlock = some k ∨ al.ownBlock = some k) ∨ wr.heap.size ≤ k := by
    intro k hk
    rcases hk with hk | hk
    · rcases hp with hp | hp
      · exact Or.inl (Or.inl (hp ▸ hk))
      · rw [hp] at hk
        have := Option.some.inj hk
        exact Or.inr (by omega)
    · exact Or.inl (Or.inr hk)
  have hbk : ∀ k, k < wr.heap.size → ¬ (l.ownBlock = some k ∨ al.ownBlock = some k) → wr'.heap[k]? = wr.heap[k]? := fun k hk hn => hg.block k hk (fun e => hn (Or.inl e.symm))
  refine ⟨by rw [FE.L, List.map_append]; exact o, I.oa.kept hg ?_, I.bw.grown hg I.bw.size hown, ?_, ?_, I.ln, ?_⟩
  · cases hv : al.ownBlock with
    | none => exact Or.inl rfl
    | some j => exact Or.inr (fun e => I.ne j e.symm hv)
  · intro y hy
    rcases List.mem_append.1 hy with h | h
    · exact (I.fk y h).step hg.size hbk hXX
    · rw [List.mem_singleton.1 h]
      exact hf.step hg.size hbk hXX
  · intro y hy
    rcases List.mem_append.1 hy with h | h
    · exact I.ok y h
    · rw [List.mem_singleton.1 h]
      exact ho
  · intro j hj ha
    rcases hp with hp | hp
    · exact I.ne j (hp ▸ hj) ha
    · rw [hp] at hj
      have e := Option.some.inj hj
      have := (I.oa.lt j ha).2
      omega
theorem LI.pushA {w0 wr wr' : World} {l al al' : Value} {L : List FE} {xs ys : List Int} (I : LI w0 wr l al L xs)
    (o : wr'.ownsRow w0.heap.size 5 1 al' (xs.length + ys.length) ((xs ++ ys).map (Value.int .u8))) (hg : wr.grownBy wr' al.ownBlock) (hp : al'.ownBlock = al.ownBlock ∨ al'.ownBlock = some wr.heap.size) (hl : xs.length + ys.length ≤ 65536) : LI w0 wr' l al' L (xs ++ ys) := by
  have hown : ∀ j, al.ownBlock = some j → w0.heap.size ≤ j := fun j hj => (I.oa.lt j hj).1
  have hXX : ∀ k, (l.ownBlock = some k ∨ al'.ownBlock = some k) → (l.ownBlock = some k ∨ al.ownBlock = some k) ∨ wr.heap.size ≤ k := by
    intro k hk
    rcases hk with hk | hk
    · exact Or.inl (Or.inl hk)
    · rcases hp with hp | hp
      · exact Or.inl (Or.inr (hp ▸ hk))
      · rw [hp] at hk
        have := Option.some.inj hk
        exact Or.inr (by omega)
  have hbk : ∀ k, k < wr.heap.size → ¬ (l.ownBlock = some k ∨ al.ownBlock = some k) → wr'.heap[k]? = wr.heap[k]? := fun k hk hn => hg.block k hk (fun e => hn (Or.inr e.symm))
  obtain ⟨zs, ho, hz⟩ := I.ol
  refine ⟨⟨zs, ho.kept hg ?_, hz⟩, by rw [List.length_append]; exact o, I.bw.grown hg I.bw.size hown, fun y hy => (I.fk y hy).step hg.size hbk hXX, I.ok, by rw [List.length_append]; exact hl, ?_⟩
  · cases hv : l.ownBlock with
    | none => exact Or.inl rfl
    | some j => exact Or.inr (fun e => I.ne j hv e.symm)
  · intro j hj ha
    rcases hp with hp | hp
    · exact I.ne j hj (hp ▸ ha)
    · rw [hp] at ha
      have e := Option.some.inj ha
      have := (ho.lt j hj).2
      omega
end Go.Proofs.YtdommkpeilmdnaaDoor

namespace Go.Proofs.YtdommkpeilmdnaaDoor
open Go.RowKit
set_option linter.unusedVariables false

/-- The contract of a frame's draw. -/
def DrawsFr : Prop := ∀ (g : Nat) (c : Value) (xs : List Int) (W : World), Dt W g c xs 0 →
    Calls Tryd.prog 10 #[.pointer (some ⟨g, 0, none⟩)] W fun e w' => ∃ (f : HF) (d s : Value), e = .returned (hV f d s) ∧ Row w' .u8 d f.d ∧ Bytes f.d ∧ f.d.length ≤ 16385 ∧ GOwns 62 2 w' W.heap.size s (SSetting.L f.s) ∧ f.s.length ≤ 20 ∧ W.grownBy w' (some g) ∧ (0 < f.d.length → ∀ j, d.ownBlock = some j → W.heap.size ≤ j)
theorem FK.set4 {w : World} {X : Nat → Prop} {x : FE} {b i : Nat} {u : Value} (h : FK w X x) (hb : X b) : FK (w.setCell ⟨b, i, none⟩ u) X x :=
  h.step (by simp [World.setCell]) (fun k hk hn => (grown_setCell w b i u).block k hk (fun e => hn ((Option.some.inj e) ▸ hb))) (fun k hk => Or.inl hk)
set_option maxRecDepth 20000 in
set_option maxHeartbeats 1000000 in
theorem drawHB (hF : DrawsFr) (v : Value) (xs : List Int) (w : World) (hrow : Row w .u8 v xs) (hB : Bytes xs) (hl : xs.length ≤ 1048576) :
    Calls Tryd.prog 4 #[v] w fun e w' => ∃ x : FE, e = .returned (hV x.f x.d x.s) ∧ FK w' (fun j => j < w.heap.size) x ∧ Bytes x.f.d ∧ x.f.d.length ≤ 16385 ∧ x.f.s.length ≤ 20 ∧ Below w.heap.size w w' := by
  have A0 : Below w.heap.size w (w.alloc (.cells #[.int .i64 0, .int .i64 0, .slice none 0 0, .slice none 0 0] 26)) := (Below.refl _ _).alloc (Nat.le_refl _) _
  have S0 := sourceC v xs _ (hrow.below A0) hB hl
  have D0 := dt_new (hrow.below A0) hB hl
  have H0 : Hid _ := And.intro S0 (And.intro D0 A0)
  clear S0 D0 hrow A0 hB hl
  go_enter Tryd.func4, Tryd.ntmps4
  go_wp2_with fail
  go_at_call 11
  refine H0.out.1.mono ?_
  rintro e w1 ⟨rfl, hw1⟩
  have D1 : Dt w1 (w.heap.size + 1) v xs 0 := by rw [hw1]; have := H0.out.2.1; simpa using this
  have R1 : fB w1 w.heap.size 0 0 (.slice none 0 0) (.slice none 0 0) := by rw [hw1]; exact blk_allocT (heap_alloc_new w _) _
  have B1 : Below w.heap.size w w1 := by rw [hw1]; exact H0.out.2.2.alloc (by simp) _
  have z1 : w1.heap.size = w.heap.size + 2 := by rw [hw1]; simp
  have H1 : Hid _ := And.intro D1 (And.intro R1 (And.intro B1 z1))
  clear D1 R1 B1 z1 hw1 H0
  go_wp2_with fail
  go_at_call 10
  refine ((show Calls Tryd.prog 10 _ w1 _ by simpa using hF (w.heap.size + 1) v xs w1 H1.out.1)).mono ?_
  rintro e w2 ⟨f, d, s, rfl, rd, bd, ld, gs, ls, g2, pd⟩
  obtain ⟨da, dc, ed⟩ := rd.form
  obtain ⟨sa, sc, es⟩ := gs.row.form
  obtain ⟨dn, edn⟩ : ∃ n, n = f.d.length := ⟨_, rfl⟩
  obtain ⟨sn, esn⟩ : ∃ n, n = (SSetting.L f.s).length := ⟨_, rfl⟩
  rw [← edn] at ed
  rw [← esn] at es
  clear edn esn
  subst ed es
  have R2 : fB w2 w.heap.size 0 0 (.slice none 0 0) (.slice none 0 0) := blk_drawnT H1.out.2.1 g2 (by omega)
  have B2 : Below w.heap.size w w2 := H1.out.2.2.1.grown g2 H1.out.2.2.1.size (fun k hk => by have := Option.some.inj hk; omega)
  have hz2 : w.heap.size < w2.heap.size := R2.lt
  have K2 : FK w2 (fun j => j < w.heap.size + 1) ⟨f, .slice da dn dc, .slice sa sn sc⟩ := ⟨rd, gs.row, fun h0 j hj => by have := pd h0 j hj; have := H1.out.2.2.2; omega, fun h0 j hj => by have := gs.ownU j hj; have := H1.out.2.2.2; omega⟩
  have f0 := R2.fr 0
  have f1 := R2.fr 1
  have f2 := R2.fr 2
  have f3 := R2.fr 3
  have q0 := R2.c0
  have q1 := R2.c1
  have q2 := R2.c2
  have q3 := R2.c3
  have H2 : Hid _ := And.intro K2 (And.intro B2 (And.intro bd (And.intro ld (And.intro ls R2))))
  clear K2 B2 bd ld ls rd gs g2 pd R2 H1
  unfold hV
  go_wp2
  try simp only [Exit.inBlock, Exit.then]
  have K2 := H2.out.1
  have C0 : fB (w2.setCell ⟨w.heap.size, 0, none⟩ (.int .i64 f.k)) w.heap.size f.k 0 (.slice none 0 0) (.slice none 0 0) := bk_set H2.out.2.2.2.2.2 0 _
  have C4 := ((C0.set1 f.a).set2 (.slice da dn dc)).set3 (.slice sa sn sc)
  refine bodyPost_ret (v := .agg #[.int .i64 f.k, .int .i64 f.a, .slice da dn dc, .slice sa sn sc]) ?_ rfl ?_
  · refine results_cell_row (t := 26) rfl _ _ w.heap.size _ (fr := (0, 0)) _ rfl ?_ Tryd.underlying26 rfl infoHF
    exact C4
  · have hx : w.heap.size < w.heap.size + 1 := Nat.lt_succ_self _
    have gB : ∀ (u : World) (i : Nat) (y : Value), Below w.heap.size w u → Below w.heap.size w (u.setCell ⟨w.heap.size, i, none⟩ y) := fun u i y hu => hu.grown (grown_setCell u w.heap.size i y) hu.size (fun k hk => by have := Option.some.inj hk; omega)
    exact ⟨⟨f, .slice da dn dc, .slice sa sn sc⟩, rfl, ((((K2.set4 (i := 0) (u := .int .i64 f.k) hx).set4 (i := 1) (u := .int .i64 f.a) hx).set4 (i := 2) (u := .slice da dn dc) hx).set4 (i := 3) (u := .slice sa sn sc) hx).step (Nat.le_refl _) (fun _ _ _ => rfl) (fun k hk => Or.inl (by omega)), H2.out.2.2.1, H2.out.2.2.2.1, H2.out.2.2.2.2.1, gB _ _ _ (gB _ _ _ (gB _ _ _ (gB _ _ _ H2.out.2.1)))⟩
theorem hyper_huge (ao : Option Addr) (n cap : Nat) (w : World) (h : 1048576 < n) (hm : n ≤ 9223372036854775807) :
    Calls Tryd.prog 3 #[.slice ao n cap] w fun e w' => e = .returned (.bool true) ∧ Below w.heap.size w w' := by
  go_enter Tryd.func3, Tryd.ntmps3
  go_wp2
  go_ret
  exact ⟨rfl, Below.refl _ _⟩
end Go.Proofs.YtdommkpeilmdnaaDoor

namespace Go.Proofs.YtdommkpeilmdnaaDoor
open Go.RowKit
set_option linter.unusedVariables false
theorem infoHF4 : (Tryd.prog.info? 26).map (fun i => (i.zero, i.size, i.bytes)) = some (some (.agg #[.int .i64 0, .int .i64 0, .slice none 0 0, .slice none 0 0]), 4, 64) := by kernel_rfl
theorem FlatK.one {K : Nat} {x : List Value} (h : x.length = K ∧ ∀ v ∈ x, v.oneCell' = true) : FlatK K [x] := fun y hy => by
  rw [List.mem_singleton.1 hy]; exact h
theorem hbR_yes (f : HF) (h : hyP f.k f.a f.d.length f.s) : hbR f = (hyBy f, 0) := if_pos h
theorem hbR_no (f : HF) (h : ¬ hyP f.k f.a f.d.length f.s) : hbR f = ([], 1) := if_neg h
theorem rhR_at (L : List FE) (k : Nat) (hk : k < L.length) (hl : (aB L).length ≤ 65536) (hok : hyP (L.getD k default).f.k (L.getD k default).f.a (L.getD k default).f.d.length (L.getD k default).f.s) :
    rhR (aB L) ((aB (L.take k)).length : Int) = ((L.getD k default).f, ((aB (L.take (k + 1))).length : Int), 0) := by
  have hs := aB_split L k hk
  have hd : (aB L).drop (aB (L.take k)).length = hyBy (L.getD k default).f ++ aB (L.drop (k + 1)) := by rw [hs]; exact List.drop_left
  have hT := rhT_back (aB L) (aB (L.take k)).length _ _ hl hok hd
  have hle : (aB (L.take k)).length ≤ (aB L).length := by rw [hs, List.length_append]; omega
  unfold rhR
  rw [if_neg (by omega), if_neg (by omega), Int.toNat_natCast, hT, aB_take L k hk, List.length_append]
theorem rhR_end (xs : List Int) (hl : xs.length ≤ 65536) : rhR xs (xs.length : Int) = (zHF, 0, 2) := by
  have h1 : ¬ varOK xs xs.length := fun h => by unfold varOK at h; omega
  have hT : rhT xs xs.length = .error 2 := by unfold rhT; rw [if_pos h1]
  unfold rhR
  rw [if_neg (by omega), if_neg (by omega), Int.toNat_natCast, hT]
theorem hyBy_pos (f : HF) (h : hyP f.k f.a f.d.length f.s) : 0 < (hyBy f).length := by
  have h1 := h.1.1
  rw [hin_iff] at h1
  have := (putv_vsize f.k h1.1 h1.2).2
  unfold hyBy
  rw [List.length_append]
  omega
theorem frow_at {w : World} {la : Option Addr} {m lc : Nat} {L : List FE} (h : GRow 4 w (.slice la m lc) (FE.L L)) (j : Nat) (hj : j < L.length) :
    ∃ b off, la = some ⟨b, off, none⟩ ∧ b < w.heap.size ∧ w.cell? ⟨b, off + j * 4, none⟩ = some (.int .i64 (L.getD j default).f.k) ∧ w.cell? ⟨b, off + j * 4 + 1, none⟩ = some (.int .i64 (L.getD j default).f.a) ∧ w.cell? ⟨b, off + j * 4 + 2, none⟩ = some (L.getD j default).d ∧ w.cell? ⟨b, off + j * 4 + 3, none⟩ = some (L.getD j default).s := by
  obtain ⟨b, off, cap, e, hb, hc⟩ := h.at' (by rw [List.length_map]; omega)
  injection e with e1 e2 e3
  have t := hc j (by rw [List.length_map]; exact hj)
  rw [FE.at L j hj] at t
  exact ⟨b, off, e1, hb, t 0 (by decide), t 1 (by decide), t 2 (by decide), t 3 (by decide)⟩
theorem row_pre {w : World} {ao : Option Addr} {n cap m : Nat} {xs : List Int} (h : Row w .u8 (.slice ao n cap) xs) (hn : n = xs.length) (hm : m ≤ n) : Row w .u8 (.slice ao m cap) (xs.take m) := by
  by_cases h0 : 0 < n
  · obtain ⟨b, off, cp, e, hb, hc, hx⟩ := h.full (by omega)
    injection e with e1 e2 e3
    subst e1 e3
    have hl : (xs.take m).length = m := by rw [List.length_take]; omega
    refine Or.inr ⟨b, off, cap, by rw [hl], hb, by omega, fun j hj => ?_⟩
    rw [hl] at hj
    rw [hx j (by omega)]
    simp [List.getD, hj]
  · obtain rfl : m = 0 := by omega
    exact Or.inl ⟨by simp, _, _, rfl⟩
set_option maxRecDepth 20000 in
set_option maxHeartbeats 4000000 in
theorem hyper_law (hF : DrawsFr) (v : Value) (xs : List Int) (w : World) (hrow : Row w .u8 v xs) (hB : Bytes xs) (hl : xs.length ≤ 1048576) (ht : Tab w) (he : errT w) :
    Calls Tryd.prog 3 #[v] w fun e w' => e = .returned (.bool true) ∧ Below w.heap.size w w' := by
  obtain ⟨ao, cap, ev⟩ := hrow.form
  obtain ⟨n, en⟩ : ∃ n, n = xs.length := ⟨_, rfl⟩
  rw [← en] at ev hl
  subst ev
  have HD : Hid _ := And.intro hrow (And.intro hB (And.intro ht (And.intro he en)))
  clear hrow hB ht he en
  go_enter Tryd.func3, Tryd.ntmps3
  go_wp2_with fail
  go_loopw [3, 4, 5, 6] (fun l al i _fp wr => ∃ q : Nat, q ≤ 8 ∧ i = .int .i64 (q : Int) ∧ ∃ (L : List FE), L.length ≤ q ∧ LI w wr l al L (aB L)) (fun _ _ i _ _ => 8 - (intOf i).toNat)
  case atStart =>
    refine ⟨0, by omega, rfl, [], by simp, ?_⟩
    have A0 : Below w.heap.size w (w.alloc (.cells #[] 26)) := (Below.refl _ _).alloc (Nat.le_refl _) _
    have A1 : Below (w.alloc (.cells #[] 26)).heap.size (w.alloc (.cells #[] 26)) ((w.alloc (.cells #[] 26)).alloc (.cells #[] 5)) := (Below.refl _ _).alloc (Nat.le_refl _) _
    refine ⟨(GOwns.lit0 _ 4 w w.heap.size (Nat.le_refl _)).below A1, ?_, A0.trans (A1.mono (by simp)), fun x hx => absurd hx (List.not_mem_nil), fun x hx => absurd hx (List.not_mem_nil), Nat.zero_le _, ?_⟩
    · have := World.ownsRow_lit (w.alloc (.cells #[] 26)) (base := w.heap.size) (e := 5) (size := 1) #[] 0 (by simp) (by decide) rfl
      simpa [aB] using this
    · intro j hj ha
      have e1 : w.heap.size = j := Option.some.inj hj
      have e2 : w.heap.size + 1 = j := Option.some.inj ha
      omega
  case round =>
    obtain ⟨q, hq, rfl, L, hL, I⟩ := hrel
    by_cases hlt : q < 8
    · have hlt' : (q : Int) < 8 := by omega
      have HI : Hid _ := And.intro I hL
      clear I hL
      obtain ⟨la, lc, el⟩ : ∃ la lc, u3 = .slice la L.length lc := by have := HI.out.1.ol.row.form; simpa using this
      obtain ⟨aa, ac, ea⟩ : ∃ aa ac, u4 = .slice aa (aB L).length ac := (row_of_owns HI.out.1.oa).form
      obtain ⟨nl, enl⟩ : ∃ nl, nl = L.length := ⟨_, rfl⟩
      obtain ⟨na, ena⟩ : ∃ na, na = (aB L).length := ⟨_, rfl⟩
      rw [← enl] at el
      rw [← ena] at ea
      subst el ea
      have hna : na ≤ 65536 := by rw [ena]; exact HI.out.1.ln
      have HE : Hid _ := And.intro enl ena
      clear enl ena
      have hcap : n ≤ cap ∨ n = 0 := by
        rcases Nat.eq_zero_or_pos n with h | h
        · exact Or.inr h
        · obtain ⟨b, off, cp, e, hb, hc, _⟩ := HD.out.1.full (by have := HD.out.2.2.2.2; omega)
          injection e with e1 e2 e3
          exact Or.inl (by omega)
      have hcap : n ≤ cap := by omega
      have hw11 : 0 ≤ 11 * (q : Int) ∧ 11 * (q : Int) < 256 := by omega
      have B1 : Below wr.heap.size wr (wr.alloc (.cells #[.int .u8 (11 * (q : Int))] 5)) := (Below.refl _ _).alloc (Nat.le_refl _) _
      have RW := (HD.out.1.below HI.out.1.bw).below B1
      have O1 := World.ownsRow_lit wr (base := wr.heap.size) (e := 5) (size := 1) #[.int .u8 (11 * (q : Int))] 1 (Nat.le_refl _) (by decide) rfl
      have h60 : n ≤ 60 ∨ 60 < n := by omega
      have RY : (n ≤ 60 ∧ Hid (∃ ys, Row (wr.alloc (.cells #[.int .u8 (11 * (q : Int))] 5)) .u8 (.slice ao n cap) ys ∧ Bytes ys ∧ ys.length ≤ 60)) ∨ (60 < n ∧ Hid (∃ ys, Row (wr.alloc (.cells #[.int .u8 (11 * (q : Int))] 5)) .u8 (.slice ao 60 cap) ys ∧ Bytes ys ∧ ys.length ≤ 60)) := by
        rcases h60 with h | h
        · exact Or.inl ⟨h, ⟨xs.take n, row_pre RW HD.out.2.2.2.2 (Nat.le_refl _), HD.out.2.1.take _, by rw [List.length_take]; omega⟩⟩
        · exact Or.inr ⟨h, ⟨xs.take 60, row_pre RW HD.out.2.2.2.2 (by omega), HD.out.2.1.take _, by rw [List.length_take]; omega⟩⟩
      clear h60 RW
      have hc60 : 60 < n → 60 ≤ cap := fun h => by omega
      have hi60 : 60 < n → ¬ (n : Int) ≤ 60 := fun h => by omega
      have hj60 : n ≤ 60 → (n : Int) ≤ 60 := fun h => by omega
      rcases RY with ⟨h6, RY⟩ | ⟨h6, RY⟩
      case inl =>
        have h6' := hj60 h6
        have h7' := h6
        clear hc60 hi60 hj60
        obtain ⟨ys, ry, yb, yl⟩ := RY.out
        have HY : Hid _ := And.intro ry (And.intro O1 (And.intro yb (And.intro yl B1)))
        clear ry yb yl RY O1 B1
        go_wp2_with (at_builtin; refine wpList_append_row rfl (.tmp 31) (.tmp 36) rfl wr.heap.size _ 1 [11 * (q : Int)] rfl HY.out.2.1 _ ys rfl HY.out.1 (by have := HY.out.2.2.2.1; omega) (by simp) ?_; intro v3 w3 o3 g3)
        have R3 : Row w3 .u8 v3 ([11 * (q : Int)] ++ ys) := row_of_owns o3
        have b3 : Below wr.heap.size wr w3 := HY.out.2.2.2.2.grown g3 HY.out.2.2.2.2.size (fun k hk => by have e : wr.heap.size = k := Option.some.inj hk; omega)
        have D3 := drawHB hF v3 _ w3 R3 (bytes_app (fun x hx => by rw [List.mem_singleton.1 hx]; exact hw11) HY.out.2.2.1) (by have := HY.out.2.2.2.1; simp; omega)
        have H3 : Hid _ := And.intro D3 b3
        clear o3 g3 R3 b3 D3
        go_wp2_with fail
        go_at_call 4
        refine H3.out.1.mono ?_
        rintro e w4 ⟨⟨⟨fk, fa, fd, fs⟩, dv, sv⟩, rfl, k4, bd, ld, ls, b4⟩
        replace bd : Bytes fd := bd
        replace ld : fd.length ≤ 16385 := ld
        replace ls : fs.length ≤ 20 := ls
        obtain ⟨da, dc, ed⟩ : ∃ da dc, dv = .slice da fd.length dc := k4.1.form
        obtain ⟨sa, sc, es⟩ : ∃ sa sc, sv = .slice sa fs.length sc := by have := k4.2.1.form; simpa using this
        obtain ⟨dn, edn⟩ : ∃ dn, dn = fd.length := ⟨_, rfl⟩
        obtain ⟨sn, esn⟩ : ∃ sn, sn = fs.length := ⟨_, rfl⟩
        rw [← edn] at ed
        rw [← esn] at es
        subst ed es
        have B4 : Below wr.heap.size wr w4 := H3.out.2.trans (b4.mono H3.out.2.size)
        have K4 : FK w4 (fun j => (Value.slice la nl lc).ownBlock = some j ∨ (Value.slice aa na ac).ownBlock = some j) ⟨⟨fk, fa, fd, fs⟩, .slice da dn dc, .slice sa sn sc⟩ := k4.step (Nat.le_refl _) (fun _ _ _ => rfl) (fun k hk => Or.inl (by have := HI.out.1.lt k hk; have := H3.out.2.size; omega))
        have b5 : Below w4.heap.size w4 (w4.alloc (.cells #[.int .i64 fk, .int .i64 fa, .slice da dn dc, .slice sa sn sc] 26)) := (Below.refl _ _).alloc (Nat.le_refl _) _
        have z5 : w4.heap.size + 1 ≤ (w4.alloc (.cells #[.int .i64 fk, .int .i64 fa, .slice da dn dc, .slice sa sn sc] 26)).heap.size ∧ wr.heap.size ≤ w4.heap.size := ⟨by simp, B4.size⟩
        have I5 := (HI.out.1.below B4).below b5
        have K5 : FK (w4.alloc (.cells #[.int .i64 fk, .int .i64 fa, .slice da dn dc, .slice sa sn sc] 26)) (fun j => (Value.slice la nl lc).ownBlock = some j ∨ (Value.slice aa na ac).ownBlock = some j) ⟨⟨fk, fa, fd, fs⟩, .slice da dn dc, .slice sa sn sc⟩ := K4.step b5.size (fun k hk _ => b5.block k hk) (fun k hk => Or.inl hk)
        have FB5 : ∀ u, Below (w4.alloc (.cells #[.int .i64 fk, .int .i64 fa, .slice da dn dc, .slice sa sn sc] 26)).heap.size (w4.alloc (.cells #[.int .i64 fk, .int .i64 fa, .slice da dn dc, .slice sa sn sc] 26)) u → fB u w4.heap.size fk fa (.slice da dn dc) (.slice sa sn sc) := fun u hu => (hu.block w4.heap.size (by simp)).trans (heap_alloc_new w4 _)
        have T5 : Tab (w4.alloc (.cells #[.int .i64 fk, .int .i64 fa, .slice da dn dc, .slice sa sn sc] 26)) := HD.out.2.2.1.below I5.bw HD.out.2.2.1.lt
        have CI := hbyI ⟨fk, fa, fd, fs⟩ (.slice da dn dc) (.slice sa sn sc) (w4.alloc (.cells #[.int .i64 fk, .int .i64 fa, .slice da dn dc, .slice sa sn sc] 26)) T5 K5.1 K5.2.1 (by show fd.length ≤ _; omega) (by show fs.length ≤ _; omega)
        have CS := fun (u : World) (hu : Below (w4.alloc (.cells #[.int .i64 fk, .int .i64 fa, .slice da dn dc, .slice sa sn sc] 26)).heap.size (w4.alloc (.cells #[.int .i64 fk, .int .i64 fa, .slice da dn dc, .slice sa sn sc] 26)) u) => hbyS ⟨fk, fa, fd, fs⟩ (.slice da dn dc) (.slice sa sn sc) u (K5.1.below hu) (K5.2.1.below hu) (by show fd.length ≤ _; omega) (by show fs.length ≤ _; omega)
        have CK := fun (u : World) (hu : Below (w4.alloc (.cells #[.int .i64 fk, .int .i64 fa, .slice da dn dc, .slice sa sn sc] 26)).heap.size (w4.alloc (.cells #[.int .i64 fk, .int .i64 fa, .slice da dn dc, .slice sa sn sc] 26)) u) => hokI fk fa da dn dc (.slice sa sn sc) fs u (K5.2.1.below hu) (by omega) (by omega)
        clear T5 k4 b4 B4 K4 ld
        by_cases hp : hyP fk fa fd.length fs
        case pos =>
          rw [hbR_yes ⟨fk, fa, fd, fs⟩ hp] at CI CS
          rw [show decide (hyP fk fa dn fs) = true by rw [edn]; simpa using hp] at CK
          have HC : Hid _ := And.intro CI (And.intro CS (And.intro CK (And.intro FB5 (And.intro I5 (And.intro K5 (And.intro (And.intro hp bd) (And.intro b5 z5)))))))
          clear CI CS CK FB5 I5 K5 hp bd b5 z5 edn esn
          dsimp only [hV]
          go_wp2_with fail
          go_at_call 5
          refine HC.out.1.mono ?_
          rintro e w6 ⟨r, rfl, o6, b6⟩
          obtain ⟨ra, rc, er⟩ := (row_of_owns o6).form
          obtain ⟨rn, ern⟩ : ∃ rn, rn = (hyBy ⟨fk, fa, fd, fs⟩).length := ⟨_, rfl⟩
          have er' : r = .slice ra rn rc := by rw [ern]; exact er
          clear er
          subst er'
          have F6 := HC.out.2.2.2.1 w6 b6
          have x0 := F6.c0
          have x1 := F6.c1
          have x2 := F6.c2
          have x3 := F6.c3
          have H6 : Hid _ := And.intro o6 (And.intro b6 ern)
          clear o6 b6 ern F6
          go_wp2_with fail
          go_at_call 6
          refine (HC.out.2.1 w6 H6.out.2.1).mono ?_
          rintro e w7 ⟨r2, rfl, o7, b7⟩
          have B7 : Below (w4.alloc (.cells #[.int .i64 fk, .int .i64 fa, .slice da dn dc, .slice sa sn sc] 26)).heap.size (w4.alloc (.cells #[.int .i64 fk, .int .i64 fa, .slice da dn dc, .slice sa sn sc] 26)) w7 := H6.out.2.1.trans (b7.mono H6.out.2.1.size)
          have F7 := HC.out.2.2.2.1 w7 B7
          have y0 := F7.c0
          have y1 := F7.c1
          have y2 := F7.c2
          have y3 := F7.c3
          have H7 : Hid _ := And.intro B7 (owns_belowU H6.out.1 b7)
          clear o7 b7 F7 B7
          go_wp2_with fail
          go_at_call 7
          refine (HC.out.2.2.1 w7 H7.out.1).mono ?_
          rintro e w8 ⟨rfl, b8⟩
          have B8 : Below (w4.alloc (.cells #[.int .i64 fk, .int .i64 fa, .slice da dn dc, .slice sa sn sc] 26)).heap.size (w4.alloc (.cells #[.int .i64 fk, .int .i64 fa, .slice da dn dc, .slice sa sn sc] 26)) w8 := H7.out.1.trans (b8.mono H7.out.1.size)
          have F8 := HC.out.2.2.2.1 w8 B8
          have z0 := F8.c0
          have z1 := F8.c1
          have z2 := F8.c2
          have z3 := F8.c3
          have H8 : Hid _ := And.intro B8 (owns_belowU H7.out.2 b8)
          clear b8 F8 B8
          by_cases hsum : na + rn ≤ 65536
          case pos =>
            have hs1 : (na : Int) + (rn : Int) ≤ 65536 := by omega
            have hs2 : IntKind.i64.wrap ((na : Int) + (rn : Int)) = (na : Int) + (rn : Int) := by rw [IntKind.wrap_i64]; omega
            have A8 : Below w8.heap.size w8 (w8.alloc (.cells #[.int .i64 fk, .int .i64 fa, .slice da dn dc, .slice sa sn sc] 26)) := (Below.refl _ _).alloc (Nat.le_refl _) _
            have I8 := (HC.out.2.2.2.2.1.below H8.out.1).below A8
            have B8' : Below (w4.alloc (.cells #[.int .i64 fk, .int .i64 fa, .slice da dn dc, .slice sa sn sc] 26)).heap.size (w4.alloc (.cells #[.int .i64 fk, .int .i64 fa, .slice da dn dc, .slice sa sn sc] 26)) (w8.alloc (.cells #[.int .i64 fk, .int .i64 fa, .slice da dn dc, .slice sa sn sc] 26)) := H8.out.1.trans (A8.mono H8.out.1.size)
            have K8 : FK (w8.alloc (.cells #[.int .i64 fk, .int .i64 fa, .slice da dn dc, .slice sa sn sc] 26)) (fun j => (Value.slice la nl lc).ownBlock = some j ∨ (Value.slice aa na ac).ownBlock = some j) ⟨⟨fk, fa, fd, fs⟩, .slice da dn dc, .slice sa sn sc⟩ := HC.out.2.2.2.2.2.1.step B8'.size (fun k hk _ => B8'.block k hk) (fun k hk => Or.inl hk)
            have o8 := owns_belowU H8.out.2 A8
            have HL : Hid _ := And.intro I8 (And.intro K8 o8)
            clear A8 I8 B8' K8 o8
            go_wp2_with (at_builtin; first | (refine wpList_append_flatP rfl _ _ 23 26 Tryd.underlying23 _ 4 64 infoHF4 rfl (by decide) (by decide) rfl w.heap.size (.slice la nl lc) (FE.L L) HL.out.1.flat rfl HL.out.1.ol _ (FE.L [⟨⟨fk, fa, fd, fs⟩, .slice da dn dc, .slice sa sn sc⟩]) (FlatK.one HL.out.2.1.flat) rfl (lit_flat w8 (FE.c ⟨⟨fk, fa, fd, fs⟩, .slice da dn dc, .slice sa sn sc⟩) 26) (by have := HI.out.2; simp; omega) HL.out.1.bw.size ?_; intro v9 w9 o9 g9 p9; have I9 := HL.out.1.pushL HL.out.2.1 HC.out.2.2.2.2.2.2.1 o9 g9 p9; have r9 : w9.ownsRow _ 5 1 (.slice ra rn rc) _ _ := HL.out.2.2.kept g9 (by cases hv : (Value.slice ra rn rc).ownBlock with | none => exact Or.inl rfl | some j => exact Or.inr (fun e => by have h1 := (HL.out.2.2.lt j hv).1; have h2 := HI.out.1.lt j (Or.inl e.symm); have h3 := HC.out.2.2.2.2.2.2.2.2; omega)); have H9 : Hid _ := And.intro I9 (row_of_owns r9); clear o9 g9 p9 I9 r9) | (refine wpList_append_rowP rfl (.tmp 73) (.tmp 74) rfl w.heap.size _ _ (aB L) rfl H9.out.1.oa _ (hyBy ⟨fk, fa, fd, fs⟩) rfl H9.out.2 (by have h1 := HE.out.2; have h2 := H6.out.2.2; omega) H9.out.1.bw.size ?_; intro v10 w10 o10 g10 p10; have I10 := H9.out.1.pushA o10 g10 p10 (by have h1 := HE.out.2; have h2 := H6.out.2.2; omega); have HT : Hid _ := And.intro I10 True.intro; clear o10 g10 p10 I10))
            go_wp2
            go_roundw
            case rel => exact ⟨q + 1, by omega, by go_num, L ++ [⟨⟨fk, fa, fd, fs⟩, .slice da dn dc, .slice sa sn sc⟩], by have := HI.out.2; simp; omega, by rw [aB_snoc]; exact HT.out.1⟩
            case measure => simp [intOf]; omega
          case neg =>
            have hs1 : ¬ (na : Int) + (rn : Int) ≤ 65536 := by omega
            have hs2 : IntKind.i64.wrap ((na : Int) + (rn : Int)) = (na : Int) + (rn : Int) := by rw [IntKind.wrap_i64]; have h2 := hyBy_le ⟨fk, fa, fd, fs⟩ HC.out.2.2.2.2.2.2.1.1; have h3 := H6.out.2.2; omega
            go_wp2
            go_roundw
            case rel => exact ⟨q + 1, by omega, by go_num, L, by have := HI.out.2; omega, HC.out.2.2.2.2.1.below H8.out.1⟩
            case measure => simp [intOf]; omega
        case neg =>
          rw [hbR_no ⟨fk, fa, fd, fs⟩ hp] at CI CS
          rw [show decide (hyP fk fa dn fs) = false by rw [edn]; simpa using hp] at CK
          have HC : Hid _ := And.intro CI (And.intro CS (And.intro CK (And.intro FB5 (And.intro I5 (And.intro K5 (And.intro (And.intro hp bd) (And.intro b5 z5)))))))
          clear CI CS CK FB5 I5 K5 hp bd b5 z5 edn esn
          dsimp only [hV]
          go_wp2_with fail
          go_at_call 5
          refine HC.out.1.mono ?_
          rintro e w6 ⟨r, rfl, o6, b6⟩
          obtain ⟨ra, rc, er⟩ := (row_of_owns o6).form
          obtain ⟨rn, ern⟩ : ∃ rn, rn = ([] : List Int).length := ⟨_, rfl⟩
          have er' : r = .slice ra rn rc := by rw [ern]; exact er
          clear er
          subst er'
          have F6 := HC.out.2.2.2.1 w6 b6
          have x0 := F6.c0
          have x1 := F6.c1
          have x2 := F6.c2
          have x3 := F6.c3
          have H6 : Hid _ := And.intro o6 (And.intro b6 ern)
          clear o6 b6 ern F6
          go_wp2_with fail
          go_at_call 6
          refine (HC.out.2.1 w6 H6.out.2.1).mono ?_
          rintro e w7 ⟨r2, rfl, o7, b7⟩
          have B7 : Below (w4.alloc (.cells #[.int .i64 fk, .int .i64 fa, .slice da dn dc, .slice sa sn sc] 26)).heap.size (w4.alloc (.cells #[.int .i64 fk, .int .i64 fa, .slice da dn dc, .slice sa sn sc] 26)) w7 := H6.out.2.1.trans (b7.mono H6.out.2.1.size)
          have F7 := HC.out.2.2.2.1 w7 B7
          have y0 := F7.c0
          have y1 := F7.c1
          have y2 := F7.c2
          have y3 := F7.c3
          have H7 : Hid _ := And.intro B7 (owns_belowU H6.out.1 b7)
          clear o7 b7 F7 B7
          go_wp2_with fail
          go_at_call 7
          refine (HC.out.2.2.1 w7 H7.out.1).mono ?_
          rintro e w8 ⟨rfl, b8⟩
          have B8 : Below (w4.alloc (.cells #[.int .i64 fk, .int .i64 fa, .slice da dn dc, .slice sa sn sc] 26)).heap.size (w4.alloc (.cells #[.int .i64 fk, .int .i64 fa, .slice da dn dc, .slice sa sn sc] 26)) w8 := H7.out.1.trans (b8.mono H7.out.1.size)
          have F8 := HC.out.2.2.2.1 w8 B8
          have z0 := F8.c0
          have z1 := F8.c1
          have z2 := F8.c2
          have z3 := F8.c3
          have H8 : Hid _ := And.intro B8 (owns_belowU H7.out.2 b8)
          clear b8 F8 B8
          go_wp2
          go_roundw
          case rel => exact ⟨q + 1, by omega, by go_num, L, by have := HI.out.2; omega, HC.out.2.2.2.2.1.below H8.out.1⟩
          case measure => simp [intOf]; omega
      case inr =>
        have h6' := hi60 h6
        have h7' := hc60 h6
        clear hc60 hi60 hj60
        obtain ⟨ys, ry, yb, yl⟩ := RY.out
        have HY : Hid _ := And.intro ry (And.intro O1 (And.intro yb (And.intro yl B1)))
        clear ry yb yl RY O1 B1
        go_wp2_with (at_builtin; refine wpList_append_row rfl (.tmp 31) (.tmp 36) rfl wr.heap.size _ 1 [11 * (q : Int)] rfl HY.out.2.1 _ ys rfl HY.out.1 (by have := HY.out.2.2.2.1; omega) (by simp) ?_; intro v3 w3 o3 g3)
        have R3 : Row w3 .u8 v3 ([11 * (q : Int)] ++ ys) := row_of_owns o3
        have b3 : Below wr.heap.size wr w3 := HY.out.2.2.2.2.grown g3 HY.out.2.2.2.2.size (fun k hk => by have e : wr.heap.size = k := Option.some.inj hk; omega)
        have D3 := drawHB hF v3 _ w3 R3 (bytes_app (fun x hx => by rw [List.mem_singleton.1 hx]; exact hw11) HY.out.2.2.1) (by have := HY.out.2.2.2.1; simp; omega)
        have H3 : Hid _ := And.intro D3 b3
        clear o3 g3 R3 b3 D3
        go_wp2_with fail
        go_at_call 4
        refine H3.out.1.mono ?_
        rintro e w4 ⟨⟨⟨fk, fa, fd, fs⟩, dv, sv⟩, rfl, k4, bd, ld, ls, b4⟩
        replace bd : Bytes fd := bd
        replace ld : fd.length ≤ 16385 := ld
        replace ls : fs.length ≤ 20 := ls
        obtain ⟨da, dc, ed⟩ : ∃ da dc, dv = .slice da fd.length dc := k4.1.form
        obtain ⟨sa, sc, es⟩ : ∃ sa sc, sv = .slice sa fs.length sc := by have := k4.2.1.form; simpa using this
        obtain ⟨dn, edn⟩ : ∃ dn, dn = fd.length := ⟨_, rfl⟩
        obtain ⟨sn, esn⟩ : ∃ sn, sn = fs.length := ⟨_, rfl⟩
        rw [← edn] at ed
        rw [← esn] at es
        subst ed es
        have B4 : Below wr.heap.size wr w4 := H3.out.2.trans (b4.mono H3.out.2.size)
        have K4 : FK w4 (fun j => (Value.slice la nl lc).ownBlock = some j ∨ (Value.slice aa na ac).ownBlock = some j) ⟨⟨fk, fa, fd, fs⟩, .slice da dn dc, .slice sa sn sc⟩ := k4.step (Nat.le_refl _) (fun _ _ _ => rfl) (fun k hk => Or.inl (by have := HI.out.1.lt k hk; have := H3.out.2.size; omega))
        have b5 : Below w4.heap.size w4 (w4.alloc (.cells #[.int .i64 fk, .int .i64 fa, .slice da dn dc, .slice sa sn sc] 26)) := (Below.refl _ _).alloc (Nat.le_refl _) _
        have z5 : w4.heap.size + 1 ≤ (w4.alloc (.cells #[.int .i64 fk, .int .i64 fa, .slice da dn dc, .slice sa sn sc] 26)).heap.size ∧ wr.heap.size ≤ w4.heap.size := ⟨by simp, B4.size⟩
        have I5 := (HI.out.1.below B4).below b5
        have K5 : FK (w4.alloc (.cells #[.int .i64 fk, .int .i64 fa, .slice da dn dc, .slice sa sn sc] 26)) (fun j => (Value.slice la nl lc).ownBlock = some j ∨ (Value.slice aa na ac).ownBlock = some j) ⟨⟨fk, fa, fd, fs⟩, .slice da dn dc, .slice sa sn sc⟩ := K4.step b5.size (fun k hk _ => b5.block k hk) (fun k hk => Or.inl hk)
        have FB5 : ∀ u, Below (w4.alloc (.cells #[.int .i64 fk, .int .i64 fa, .slice da dn dc, .slice sa sn sc] 26)).heap.size (w4.alloc (.cells #[.int .i64 fk, .int .i64 fa, .slice da dn dc, .slice sa sn sc] 26)) u → fB u w4.heap.size fk fa (.slice da dn dc) (.slice sa sn sc) := fun u hu => (hu.block w4.heap.size (by simp)).trans (heap_alloc_new w4 _)
        have T5 : Tab (w4.alloc (.cells #[.int .i64 fk, .int .i64 fa, .slice da dn dc, .slice sa sn sc] 26)) := HD.out.2.2.1.below I5.bw HD.out.2.2.1.lt
        have CI := hbyI ⟨fk, fa, fd, fs⟩ (.slice da dn dc) (.slice sa sn sc) (w4.alloc (.cells #[.int .i64 fk, .int .i64 fa, .slice da dn dc, .slice sa sn sc] 26)) T5 K5.1 K5.2.1 (by show fd.length ≤ _; omega) (by show fs.length ≤ _; omega)
        have CS := fun (u : World) (hu : Below (w4.alloc (.cells #[.int .i64 fk, .int .i64 fa, .slice da dn dc, .slice sa sn sc] 26)).heap.size (w4.alloc (.cells #[.int .i64 fk, .int .i64 fa, .slice da dn dc, .slice sa sn sc] 26)) u) => hbyS ⟨fk, fa, fd, fs⟩ (.slice da dn dc) (.slice sa sn sc) u (K5.1.below hu) (K5.2.1.below hu) (by show fd.length ≤ _; omega) (by show fs.length ≤ _; omega)
        have CK := fun (u : World) (hu : Below (w4.alloc (.cells #[.int .i64 fk, .int .i64 fa, .slice da dn dc, .slice sa sn sc] 26)).heap.size (w4.alloc (.cells #[.int .i64 fk, .int .i64 fa, .slice da dn dc, .slice sa sn sc] 26)) u) => hokI fk fa da dn dc (.slice sa sn sc) fs u (K5.2.1.below hu) (by omega) (by omega)
        clear T5 k4 b4 B4 K4 ld
        by_cases hp : hyP fk fa fd.length fs
        case pos =>
          rw [hbR_yes ⟨fk, fa, fd, fs⟩ hp] at CI CS
          rw [show decide (hyP fk fa dn fs) = true by rw [edn]; simpa using hp] at CK
          have HC : Hid _ := And.intro CI (And.intro CS (And.intro CK (And.intro FB5 (And.intro I5 (And.intro K5 (And.intro (And.intro hp bd) (And.intro b5 z5)))))))
          clear CI CS CK FB5 I5 K5 hp bd b5 z5 edn esn
          dsimp only [hV]
          go_wp2_with fail
          go_at_call 5
          refine HC.out.1.mono ?_
          rintro e w6 ⟨r, rfl, o6, b6⟩
          obtain ⟨ra, rc, er⟩ := (row_of_owns o6).form
          obtain ⟨rn, ern⟩ : ∃ rn, rn = (hyBy ⟨fk, fa, fd, fs⟩).length := ⟨_, rfl⟩
          have er' : r = .slice ra rn rc := by rw [ern]; exact er
          clear er
          subst er'
          have F6 := HC.out.2.2.2.1 w6 b6
          have x0 := F6.c0
          have x1 := F6.c1
          have x2 := F6.c2
          have x3 := F6.c3
          have H6 : Hid _ := And.intro o6 (And.intro b6 ern)
          clear o6 b6 ern F6
          go_wp2_with fail
          go_at_call 6
          refine (HC.out.2.1 w6 H6.out.2.1).mono ?_
          rintro e w7 ⟨r2, rfl, o7, b7⟩
          have B7 : Below (w4.alloc (.cells #[.int .i64 fk, .int .i64 fa, .slice da dn dc, .slice sa sn sc] 26)).heap.size (w4.alloc (.cells #[.int .i64 fk, .int .i64 fa, .slice da dn dc, .slice sa sn sc] 26)) w7 := H6.out.2.1.trans (b7.mono H6.out.2.1.size)
          have F7 := HC.out.2.2.2.1 w7 B7
          have y0 := F7.c0
          have y1 := F7.c1
          have y2 := F7.c2
          have y3 := F7.c3
          have H7 : Hid _ := And.intro B7 (owns_belowU H6.out.1 b7)
          clear o7 b7 F7 B7
          go_wp2_with fail
          go_at_call 7
          refine (HC.out.2.2.1 w7 H7.out.1).mono ?_
          rintro e w8 ⟨rfl, b8⟩
          have B8 : Below (w4.alloc (.cells #[.int .i64 fk, .int .i64 fa, .slice da dn dc, .slice sa sn sc] 26)).heap.size (w4.alloc (.cells #[.int .i64 fk, .int .i64 fa, .slice da dn dc, .slice sa sn sc] 26)) w8 := H7.out.1.trans (b8.mono H7.out.1.size)
          have F8 := HC.out.2.2.2.1 w8 B8
          have z0 := F8.c0
          have z1 := F8.c1
          have z2 := F8.c2
          have z3 := F8.c3
          have H8 : Hid _ := And.intro B8 (owns_belowU H7.out.2 b8)
          clear b8 F8 B8
          by_cases hsum : na + rn ≤ 65536
          case pos =>
            have hs1 : (na : Int) + (rn : Int) ≤ 65536 := by omega
            have hs2 : IntKind.i64.wrap ((na : Int) + (rn : Int)) = (na : Int) + (rn : Int) := by rw [IntKind.wrap_i64]; omega
            have A8 : Below w8.heap.size w8 (w8.alloc (.cells #[.int .i64 fk, .int .i64 fa, .slice da dn dc, .slice sa sn sc] 26)) := (Below.refl _ _).alloc (Nat.le_refl _) _
            have I8 := (HC.out.2.2.2.2.1.below H8.out.1).below A8
            have B8' : Below (w4.alloc (.cells #[.int .i64 fk, .int .i64 fa, .slice da dn dc, .slice sa sn sc] 26)).heap.size (w4.alloc (.cells #[.int .i64 fk, .int .i64 fa, .slice da dn dc, .slice sa sn sc] 26)) (w8.alloc (.cells #[.int .i64 fk, .int .i64 fa, .slice da dn dc, .slice sa sn sc] 26)) := H8.out.1.trans (A8.mono H8.out.1.size)
            have K8 : FK (w8.alloc (.cells #[.int .i64 fk, .int .i64 fa, .slice da dn dc, .slice sa sn sc] 26)) (fun j => (Value.slice la nl lc).ownBlock = some j ∨ (Value.slice aa na ac).ownBlock = some j) ⟨⟨fk, fa, fd, fs⟩, .slice da dn dc, .slice sa sn sc⟩ := HC.out.2.2.2.2.2.1.step B8'.size (fun k hk _ => B8'.block k hk) (fun k hk => Or.inl hk)
            have o8 := owns_belowU H8.out.2 A8
            have HL : Hid _ := And.intro I8 (And.intro K8 o8)
            clear A8 I8 B8' K8 o8
            go_wp2_with (at_builtin; first | (refine wpList_append_flatP rfl _ _ 23 26 Tryd.underlying23 _ 4 64 infoHF4 rfl (by decide) (by decide) rfl w.heap.size (.slice la nl lc) (FE.L L) HL.out.1.flat rfl HL.out.1.ol _ (FE.L [⟨⟨fk, fa, fd, fs⟩, .slice da dn dc, .slice sa sn sc⟩]) (FlatK.one HL.out.2.1.flat) rfl (lit_flat w8 (FE.c ⟨⟨fk, fa, fd, fs⟩, .slice da dn dc, .slice sa sn sc⟩) 26) (by have := HI.out.2; simp; omega) HL.out.1.bw.size ?_; intro v9 w9 o9 g9 p9; have I9 := HL.out.1.pushL HL.out.2.1 HC.out.2.2.2.2.2.2.1 o9 g9 p9; have r9 : w9.ownsRow _ 5 1 (.slice ra rn rc) _ _ := HL.out.2.2.kept g9 (by cases hv : (Value.slice ra rn rc).ownBlock with | none => exact Or.inl rfl | some j => exact Or.inr (fun e => by have h1 := (HL.out.2.2.lt j hv).1; have h2 := HI.out.1.lt j (Or.inl e.symm); have h3 := HC.out.2.2.2.2.2.2.2.2; omega)); have H9 : Hid _ := And.intro I9 (row_of_owns r9); clear o9 g9 p9 I9 r9) | (refine wpList_append_rowP rfl (.tmp 73) (.tmp 74) rfl w.heap.size _ _ (aB L) rfl H9.out.1.oa _ (hyBy ⟨fk, fa, fd, fs⟩) rfl H9.out.2 (by have h1 := HE.out.2; have h2 := H6.out.2.2; omega) H9.out.1.bw.size ?_; intro v10 w10 o10 g10 p10; have I10 := H9.out.1.pushA o10 g10 p10 (by have h1 := HE.out.2; have h2 := H6.out.2.2; omega); have HT : Hid _ := And.intro I10 True.intro; clear o10 g10 p10 I10))
            go_wp2
            go_roundw
            case rel => exact ⟨q + 1, by omega, by go_num, L ++ [⟨⟨fk, fa, fd, fs⟩, .slice da dn dc, .slice sa sn sc⟩], by have := HI.out.2; simp; omega, by rw [aB_snoc]; exact HT.out.1⟩
            case measure => simp [intOf]; omega
          case neg =>
            have hs1 : ¬ (na : Int) + (rn : Int) ≤ 65536 := by omega
            have hs2 : IntKind.i64.wrap ((na : Int) + (rn : Int)) = (na : Int) + (rn : Int) := by rw [IntKind.wrap_i64]; have h2 := hyBy_le ⟨fk, fa, fd, fs⟩ HC.out.2.2.2.2.2.2.1.1; have h3 := H6.out.2.2; omega
            go_wp2
            go_roundw
            case rel => exact ⟨q + 1, by omega, by go_num, L, by have := HI.out.2; omega, HC.out.2.2.2.2.1.below H8.out.1⟩
            case measure => simp [intOf]; omega
        case neg =>
          rw [hbR_no ⟨fk, fa, fd, fs⟩ hp] at CI CS
          rw [show decide (hyP fk fa dn fs) = false by rw [edn]; simpa using hp] at CK
          have HC : Hid _ := And.intro CI (And.intro CS (And.intro CK (And.intro FB5 (And.intro I5 (And.intro K5 (And.intro (And.intro hp bd) (And.intro b5 z5)))))))
          clear CI CS CK FB5 I5 K5 hp bd b5 z5 edn esn
          dsimp only [hV]
          go_wp2_with fail
          go_at_call 5
          refine HC.out.1.mono ?_
          rintro e w6 ⟨r, rfl, o6, b6⟩
          obtain ⟨ra, rc, er⟩ := (row_of_owns o6).form
          obtain ⟨rn, ern⟩ : ∃ rn, rn = ([] : List Int).length := ⟨_, rfl⟩
          have er' : r = .slice ra rn rc := by rw [ern]; exact er
          clear er
          subst er'
          have F6 := HC.out.2.2.2.1 w6 b6
          have x0 := F6.c0
          have x1 := F6.c1
          have x2 := F6.c2
          have x3 := F6.c3
          have H6 : Hid _ := And.intro o6 (And.intro b6 ern)
          clear o6 b6 ern F6
          go_wp2_with fail
          go_at_call 6
          refine (HC.out.2.1 w6 H6.out.2.1).mono ?_
          rintro e w7 ⟨r2, rfl, o7, b7⟩
          have B7 : Below (w4.alloc (.cells #[.int .i64 fk, .int .i64 fa, .slice da dn dc, .slice sa sn sc] 26)).heap.size (w4.alloc (.cells #[.int .i64 fk, .int .i64 fa, .slice da dn dc, .slice sa sn sc] 26)) w7 := H6.out.2.1.trans (b7.mono H6.out.2.1.size)
          have F7 := HC.out.2.2.2.1 w7 B7
          have y0 := F7.c0
          have y1 := F7.c1
          have y2 := F7.c2
          have y3 := F7.c3
          have H7 : Hid _ := And.intro B7 (owns_belowU H6.out.1 b7)
          clear o7 b7 F7 B7
          go_wp2_with fail
          go_at_call 7
          refine (HC.out.2.2.1 w7 H7.out.1).mono ?_
          rintro e w8 ⟨rfl, b8⟩
          have B8 : Below (w4.alloc (.cells #[.int .i64 fk, .int .i64 fa, .slice da dn dc, .slice sa sn sc] 26)).heap.size (w4.alloc (.cells #[.int .i64 fk, .int .i64 fa, .slice da dn dc, .slice sa sn sc] 26)) w8 := H7.out.1.trans (b8.mono H7.out.1.size)
          have F8 := HC.out.2.2.2.1 w8 B8
          have z0 := F8.c0
          have z1 := F8.c1
          have z2 := F8.c2
          have z3 := F8.c3
          have H8 : Hid _ := And.intro B8 (owns_belowU H7.out.2 b8)
          clear b8 F8 B8
          go_wp2
          go_roundw
          case rel => exact ⟨q + 1, by omega, by go_num, L, by have := HI.out.2; omega, HC.out.2.2.2.2.1.below H8.out.1⟩
          case measure => simp [intOf]; omega
    · have hq8 : ¬ ((q : Int) < 8) := by omega
      obtain ⟨la, lc, el⟩ : ∃ la lc, u3 = .slice la L.length lc := by have := I.ol.row.form; simpa using this
      obtain ⟨aa, ac, ea⟩ : ∃ aa ac, u4 = .slice aa (aB L).length ac := (row_of_owns I.oa).form
      obtain ⟨nl, enl⟩ : ∃ nl, nl = L.length := ⟨_, rfl⟩
      obtain ⟨na, ena⟩ : ∃ na, na = (aB L).length := ⟨_, rfl⟩
      rw [← enl] at el hL
      rw [← ena] at ea
      subst el ea
      have hna : na ≤ 65536 := by rw [ena]; exact I.ln
      have BA : Bytes (aB L) := by
        intro y hy
        obtain ⟨z, hz, hyz⟩ := List.mem_flatten.1 hy
        obtain ⟨x, hx, rfl⟩ := List.mem_map.1 hz
        exact hyBy_bytes x.f (I.ok x hx).1 (I.ok x hx).2 y hyz
      have HI : Hid _ := And.intro I (And.intro BA (And.intro enl ena))
      clear I BA enl ena
      obtain ⟨wo, ewo⟩ : ∃ wo : World, wo = wr := ⟨_, rfl⟩
      subst ewo
      go_wp2_with fail
      go_loopw [11, 12, 13] (fun p i _fp wr' => ∃ k : Nat, k ≤ nl ∧ i = .int .i64 (k : Int) ∧ p = .int .i64 ((aB (L.take k)).length : Int) ∧ Below wo.heap.size wo wr') (fun _ i _ _ => nl - (intOf i).toNat)
      case atStart => exact ⟨0, by omega, rfl, by simp [aB], Below.refl _ _⟩
      case round =>
        obtain ⟨k, hk, rfl, rfl, hbw⟩ := hrel
        by_cases hlt : k < nl
        · have hlt' : (k : Int) < nl := by omega
          have hkL : k < L.length := by have := HI.out.2.2.1; omega
          have I2 := HI.out.1.below hbw
          have hRat := rhR_at L k hkL I2.ln
          have htk := aB_take L k hkL
          obtain ⟨x, ex⟩ : ∃ x, x = L.getD k default := ⟨_, rfl⟩
          have hxm : x ∈ L := by rw [ex]; simp [List.getD, hkL]
          have hxf := I2.fk x hxm
          have hxo := I2.ok x hxm
          have hcell := frow_at I2.ol.row k hkL
          rw [← ex] at hRat htk hcell
          have CR := implRh (.slice aa na ac) (aB L) ((aB (L.take k)).length : Int) wr (HD.out.2.2.1.below I2.bw HD.out.2.2.1.lt) (HD.out.2.2.2.1.below I2.bw (Nat.lt_of_le_of_lt (Nat.zero_le _) HD.out.2.2.1.lt)) (row_of_owns I2.oa) HI.out.2.1 (by have := I2.ln; omega)
          rw [hRat hxo.1] at CR
          have hgt : (aB (L.take k)).length < (aB (L.take (k + 1))).length := by rw [htk, List.length_append]; have := hyBy_pos x.f hxo.1; omega
          obtain ⟨p0, ep0⟩ : ∃ p0, p0 = (aB (L.take k)).length := ⟨_, rfl⟩
          obtain ⟨p1, ep1⟩ : ∃ p1, p1 = (aB (L.take (k + 1))).length := ⟨_, rfl⟩
          rw [← ep0, ← ep1] at CR hgt
          rw [← ep0]
          clear hxm ex
          obtain ⟨⟨fk, fa, fd, fs⟩, dv, sv⟩ := x
          replace hxf : FK wr _ ⟨⟨fk, fa, fd, fs⟩, dv, sv⟩ := hxf
          have hfs : fs.length ≤ 16384 := by have h := hxo.1.2.2; unfold hyK at h; dsimp only at h; omega
          obtain ⟨da, dc, ed⟩ : ∃ da dc, dv = .slice da fd.length dc := hxf.1.form
          obtain ⟨sa, sc, es⟩ : ∃ sa sc, sv = .slice sa fs.length sc := by have := hxf.2.1.form; simpa using this
          obtain ⟨dn, edn⟩ : ∃ dn, dn = fd.length := ⟨_, rfl⟩
          obtain ⟨sn, esn⟩ : ∃ sn, sn = fs.length := ⟨_, rfl⟩
          rw [← edn] at ed
          rw [← esn] at es
          subst ed es
          obtain ⟨lb, lo, ela, hlb, c0, c1, c2, c3⟩ := hcell
          dsimp only at c0 c1 c2 c3
          subst ela
          have HP : Hid _ := And.intro ep1 (And.intro CR (And.intro hxf (And.intro hbw (And.intro hlb (And.intro c0 (And.intro c1 (And.intro c2 (And.intro c3 (And.intro edn (And.intro esn hfs))))))))))
          have hle : ¬ ((p1 : Int) ≤ (p0 : Int)) := by omega
          clear ep0 ep1 CR hRat htk hxo I2 hxf hbw hlb c0 c1 c2 c3 edn esn hfs
          go_wp2_with fail
          go_at_call 8
          refine HP.out.2.1.mono ?_
          rintro e w2 ⟨⟨d2, s2, rfl, o2, g2, _⟩, b2⟩
          dsimp only at o2 g2
          obtain ⟨d2a, d2c, ed2⟩ := (row_of_owns o2).form
          obtain ⟨s2a, s2c, es2⟩ : ∃ sa sc, s2 = .slice sa fs.length sc := by have := g2.row.form; simpa using this
          rw [← HP.out.2.2.2.2.2.2.2.2.2.1] at ed2
          rw [← HP.out.2.2.2.2.2.2.2.2.2.2.1] at es2
          subst ed2 es2
          have a2 : Below w2.heap.size w2 (w2.alloc (.cells #[.int .i64 fk, .int .i64 fa, .slice d2a dn d2c, .slice s2a sn s2c] 26)) := (Below.refl _ _).alloc (Nat.le_refl _) _
          have B3 : Below wr.heap.size wr (w2.alloc (.cells #[.int .i64 fk, .int .i64 fa, .slice d2a dn d2c, .slice s2a sn s2c] 26)) := b2.trans (a2.mono b2.size)
          have c0 : (w2.alloc (.cells #[.int .i64 fk, .int .i64 fa, .slice d2a dn d2c, .slice s2a sn s2c] 26)).cell? ⟨lb, lo + k * 4, none⟩ = some (.int .i64 fk) := (B3.cell (p := ⟨lb, lo + k * 4, none⟩) HP.out.2.2.2.2.1).trans HP.out.2.2.2.2.2.1
          have c1 : (w2.alloc (.cells #[.int .i64 fk, .int .i64 fa, .slice d2a dn d2c, .slice s2a sn s2c] 26)).cell? ⟨lb, lo + k * 4 + 1, none⟩ = some (.int .i64 fa) := (B3.cell (p := ⟨lb, lo + k * 4 + 1, none⟩) HP.out.2.2.2.2.1).trans HP.out.2.2.2.2.2.2.1
          have c2 : (w2.alloc (.cells #[.int .i64 fk, .int .i64 fa, .slice d2a dn d2c, .slice s2a sn s2c] 26)).cell? ⟨lb, lo + k * 4 + 2, none⟩ = some (.slice da dn dc) := (B3.cell (p := ⟨lb, lo + k * 4 + 2, none⟩) HP.out.2.2.2.2.1).trans HP.out.2.2.2.2.2.2.2.1
          have c3 : (w2.alloc (.cells #[.int .i64 fk, .int .i64 fa, .slice d2a dn d2c, .slice s2a sn s2c] 26)).cell? ⟨lb, lo + k * 4 + 3, none⟩ = some (.slice sa sn sc) := (B3.cell (p := ⟨lb, lo + k * 4 + 3, none⟩) HP.out.2.2.2.2.1).trans HP.out.2.2.2.2.2.2.2.2.1
          have c0d : (w2.alloc (.cells #[.int .i64 fk, .int .i64 fa, .slice d2a dn d2c, .slice s2a sn s2c] 26)).drew.cell? ⟨lb, lo + k * 4, none⟩ = some (.int .i64 fk) := c0
          have c1d : (w2.alloc (.cells #[.int .i64 fk, .int .i64 fa, .slice d2a dn d2c, .slice s2a sn s2c] 26)).drew.cell? ⟨lb, lo + k * 4 + 1, none⟩ = some (.int .i64 fa) := c1
          have c2d : (w2.alloc (.cells #[.int .i64 fk, .int .i64 fa, .slice d2a dn d2c, .slice s2a sn s2c] 26)).drew.cell? ⟨lb, lo + k * 4 + 2, none⟩ = some (.slice da dn dc) := c2
          have c3d : (w2.alloc (.cells #[.int .i64 fk, .int .i64 fa, .slice d2a dn d2c, .slice s2a sn s2c] 26)).drew.cell? ⟨lb, lo + k * 4 + 3, none⟩ = some (.slice sa sn sc) := c3
          have B3d : Below wr.heap.size wr (w2.alloc (.cells #[.int .i64 fk, .int .i64 fa, .slice d2a dn d2c, .slice s2a sn s2c] 26)).drew := B3.drew
          have a2d : Below w2.heap.size w2 (w2.alloc (.cells #[.int .i64 fk, .int .i64 fa, .slice d2a dn d2c, .slice s2a sn s2c] 26)).drew := a2.drew
          have CE := sameHy ⟨fk, fa, fd, fs⟩ (.slice d2a dn d2c) (.slice s2a sn s2c) (.slice da dn dc) (.slice sa sn sc) (w2.alloc (.cells #[.int .i64 fk, .int .i64 fa, .slice d2a dn d2c, .slice s2a sn s2c] 26)).drew ((row_of_owns o2).below a2d) (g2.row.below a2d) (HP.out.2.2.1.1.below B3d) (HP.out.2.2.1.2.1.below B3d) HP.out.2.2.2.2.2.2.2.2.2.2.2
          have H3 : Hid _ := And.intro CE B3d
          clear o2 g2 b2 a2 B3 B3d a2d CE
          dsimp only [hV]
          go_wp2_with fail
          have FX : fB (w2.alloc (.cells #[.int .i64 fk, .int .i64 fa, .slice d2a dn d2c, .slice s2a sn s2c] 26)) w2.heap.size fk fa (.slice d2a dn d2c) (.slice s2a sn s2c) := heap_alloc_new w2 _
          generalize hw3 : (w2.alloc (.cells #[.int .i64 fk, .int .i64 fa, .slice d2a dn d2c, .slice s2a sn s2c] 26)) = w3 at *
          clear hw3
          have x0 := FX.c0
          have x0d : w3.drew.cell? ⟨w2.heap.size, 0, none⟩ = some (.int .i64 fk) := FX.c0
          have x1 := FX.c1
          have x1d : w3.drew.cell? ⟨w2.heap.size, 1, none⟩ = some (.int .i64 fa) := FX.c1
          have x2 := FX.c2
          have x2d : w3.drew.cell? ⟨w2.heap.size, 2, none⟩ = some (.slice d2a dn d2c) := FX.c2
          have x3 := FX.c3
          have x3d : w3.drew.cell? ⟨w2.heap.size, 3, none⟩ = some (.slice s2a sn s2c) := FX.c3
          have hz3 : lb < w3.drew.heap.size ∧ w2.heap.size < w3.drew.heap.size := ⟨Nat.lt_of_lt_of_le HP.out.2.2.2.2.1 H3.out.2.size, FX.lt⟩
          have HF3 : Hid _ := And.intro FX hz3
          clear FX hz3
          go_region_held3 (fun u => u.cell? ⟨w2.heap.size, 0, none⟩ = some (.int .i64 fk) ∧ u.cell? ⟨w2.heap.size, 1, none⟩ = some (.int .i64 fa) ∧ u.cell? ⟨w2.heap.size, 2, none⟩ = some (.slice d2a dn d2c) ∧ u.cell? ⟨w2.heap.size, 3, none⟩ = some (.slice s2a sn s2c) ∧ u.cell? ⟨lb, lo + k * 4, none⟩ = some (.int .i64 fk) ∧ u.cell? ⟨lb, lo + k * 4 + 1, none⟩ = some (.int .i64 fa) ∧ u.cell? ⟨lb, lo + k * 4 + 2, none⟩ = some (.slice da dn dc) ∧ u.cell? ⟨lb, lo + k * 4 + 3, none⟩ = some (.slice sa sn sc)) (go_keep)
            (first
            | (go_at_call 9; refine H3.out.1.mono ?_; rintro e w4 ⟨rfl, b4⟩; have z0 : w4.cell? ⟨w2.heap.size, 0, none⟩ = some (.int .i64 fk) := (b4.cell (p := ⟨w2.heap.size, 0, none⟩) HF3.out.2.2).trans x0d; have v0 : w4.cell? ⟨lb, lo + k * 4, none⟩ = some (.int .i64 fk) := (b4.cell (p := ⟨lb, lo + k * 4, none⟩) HF3.out.2.1).trans c0d; have z1 : w4.cell? ⟨w2.heap.size, 1, none⟩ = some (.int .i64 fa) := (b4.cell (p := ⟨w2.heap.size, 1, none⟩) HF3.out.2.2).trans x1d; have v1 : w4.cell? ⟨lb, lo + k * 4 + 1, none⟩ = some (.int .i64 fa) := (b4.cell (p := ⟨lb, lo + k * 4 + 1, none⟩) HF3.out.2.1).trans c1d; have z2 : w4.cell? ⟨w2.heap.size, 2, none⟩ = some (.slice d2a dn d2c) := (b4.cell (p := ⟨w2.heap.size, 2, none⟩) HF3.out.2.2).trans x2d; have v2 : w4.cell? ⟨lb, lo + k * 4 + 2, none⟩ = some (.slice da dn dc) := (b4.cell (p := ⟨lb, lo + k * 4 + 2, none⟩) HF3.out.2.1).trans c2d; have z3 : w4.cell? ⟨w2.heap.size, 3, none⟩ = some (.slice s2a sn s2c) := (b4.cell (p := ⟨w2.heap.size, 3, none⟩) HF3.out.2.2).trans x3d; have v3 : w4.cell? ⟨lb, lo + k * 4 + 3, none⟩ = some (.slice sa sn sc) := (b4.cell (p := ⟨lb, lo + k * 4 + 3, none⟩) HF3.out.2.1).trans c3d; have H4 : Hid _ := And.intro b4 True.intro; clear b4))
          all_goals (
            go_wp2
            go_roundw
            case rel => exact ⟨k + 1, by omega, by go_num, by rw [← HP.out.1], HP.out.2.2.2.1.trans ((H3.out.2.trans (H4.out.1.mono H3.out.2.size)).mono HP.out.2.2.2.1.size)⟩
            case measure => simp [intOf]; omega)
        · obtain rfl : k = nl := by omega
          have I2 := HI.out.1.below hbw
          have CR := implRh (.slice aa na ac) (aB L) ((aB L).length : Int) wr (HD.out.2.2.1.below I2.bw HD.out.2.2.1.lt) (HD.out.2.2.2.1.below I2.bw (Nat.lt_of_le_of_lt (Nat.zero_le _) HD.out.2.2.1.lt)) (row_of_owns I2.oa) HI.out.2.1 (by have := I2.ln; omega)
          rw [rhR_end _ I2.ln, ← HI.out.2.2.2] at CR
          have et : aB (L.take k) = aB L := by rw [List.take_of_length_le (by have := HI.out.2.2.1; omega)]
          rw [et, ← HI.out.2.2.2]
          have hq : ((na : Int) == (na : Int)) = true := by simp
          have HP : Hid _ := And.intro CR I2.bw
          clear CR I2 et hbw
          go_wp2_with fail
          go_at_call 8
          refine HP.out.1.mono ?_
          rintro e w2 ⟨⟨d2, s2, rfl, o2, g2, _⟩, b2⟩
          obtain ⟨d2a, d2c, ed2⟩ := (row_of_owns o2).form
          obtain ⟨s2a, s2c, es2⟩ := g2.row.form
          subst ed2 es2
          have H2 : Hid _ := And.intro b2 True.intro
          clear o2 g2 b2
          dsimp only [hV, zHF]
          go_wp2
          go_ret
          exact ⟨rfl, (HP.out.2.trans (H2.out.1.mono HP.out.2.size)).alloc (by have h1 := HP.out.2.size; have h2 := H2.out.1.size; omega) _⟩
end Go.Proofs.YtdommkpeilmdnaaDoor
