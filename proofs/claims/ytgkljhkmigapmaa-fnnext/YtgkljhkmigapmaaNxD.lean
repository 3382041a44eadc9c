import Derived.Test.YtgkljhkmigapmaaFtD
import Derived.Test.YtgkljhkmigapmaaFlApp
import Derived.Test.YtgkljhkmigapmaaNsC
namespace Go.Proofs.Ytgkljhkmigapmaa
open Go.RowKit
set_option linter.unusedVariables false

theorem SWaiting.flat (L : List SWaiting) : FlatK 4 (SWaiting.L L) := fun x hx => by
  obtain ⟨a, _, rfl⟩ := List.mem_map.1 hx
  refine ⟨rfl, fun v hv => ?_⟩
  simp only [SWaiting.c, List.mem_cons, List.not_mem_nil, or_false] at hv
  rcases hv with rfl | rfl | rfl | rfl <;> rfl
theorem GOwns.step {T : TypeId} {K : Nat} {w w' : World} {base g : Nat} {v : Value} {L : List (List Value)} (h : GOwns T K w base v L) (hg : w.grownBy w' (some g)) (hgl : g < base) : GOwns T K w' base v L := by
  obtain ⟨zs, ho, hz⟩ := h
  refine ⟨zs, ho.kept hg ?_, hz⟩
  cases hv : v.ownBlock with
  | none => exact Or.inl rfl
  | some j =>
    right
    intro e
    have := (ho.lt j hv).1
    have := Option.some.inj e
    omega
theorem GOwns.high {T : TypeId} {K : Nat} {w : World} {base : Nat} {v : Value} {L : List (List Value)} (h : GOwns T K w base v L) : ∀ k, v.ownBlock = some k → base ≤ k := by
  obtain ⟨zs, ho, hz⟩ := h
  intro k hk
  exact (ho.lt k hk).1
theorem Dt.own {W W' : World} {g : Nat} {c : Value} {xs : List Int} {p : Int} {r : Option Nat} (h : Dt W g c xs p) (hg : W.grownBy W' r) (hr : ∀ k, r = some k → g < k) : Dt W' g c xs p := by
  obtain ⟨l, s, hd, hs⟩ := h
  refine ⟨l, s, hd.kept hg (fun e => ?_) (fun b off n cap h0 e e' => ?_), hs⟩
  · have := hr g e.symm
    omega
  · have := hr b e'.symm
    have := l b off n cap h0 e
    omega
theorem sizeT (g : Nat) (c : Value) (xs : List Int) (p m : Int) (W : World) (h : Dt W g c xs p) (hm0 : 0 ≤ m) (hm1 : m ≤ 2147483648) :
    Calls Try.prog 9 #[.pointer (some ⟨g, 0, none⟩), .int .i64 m] W fun e w' => ∃ k : Int, e = .returned (.int .i64 k) ∧ 0 ≤ k ∧ k ≤ m ∧ w' = W := by
  obtain ⟨l, s, hd, hs⟩ := h
  refine (sizeC g c xs m s W hd hm0 hm1).mono ?_
  rintro e w' ⟨rfl, rfl⟩
  refine ⟨_, rfl, ?_, ?_, rfl⟩ <;> unfold szV <;> split <;> omega
theorem made_at (z : Array Value) (K n j f : Nat) (hz : z.size = K) (hj : j < n) (hf : f < K) : (madeCells z (n * K)).toList[j * K + f]? = z[f]? := by
  have hl : j * K + f < n * K := jK_lt hj hf
  have hm : (j * K + f) % z.size = f := by rw [hz, Nat.add_comm, Nat.add_mul_mod_self_right, Nat.mod_eq_of_lt hf]
  have hb : f < z.size := by omega
  simp [madeCells, hl, hm, hb]
theorem GOwns.made {T : TypeId} {w : World} {base b n : Nat} {z : Value} {cs : List Value} (hz : z.cells = cs.toArray) (h : w.ownsRow base T cs.length (.slice (some ⟨b, 0, none⟩) n n) n (madeCells z.cells (n * cs.length)).toList) : GOwns T cs.length w base (.slice (some ⟨b, 0, none⟩) n n) (List.replicate n cs) := by
  refine ⟨_, by rw [List.length_replicate]; exact h, fun j hj f hf => ?_⟩
  rw [List.length_replicate] at hj
  rw [made_at _ _ _ _ _ (by rw [hz]; simp) hj hf, hz]
  simp [List.getD, hj]
set_option maxHeartbeats 4000000 in
theorem drawNx (v : Value) (xs : List Int) (w : World) (hrow : Row w .u8 v xs) (hB : Bytes xs) (hl : xs.length ≤ 1048576) :
    Calls Try.prog 4 #[v] w fun e w' => ∃ r L, e = .returned r ∧ GOwns 27 4 w' (w.heap.size + 1) r (SWaiting.L L) ∧ L.length ≤ 4097 ∧ (∀ x ∈ L, 0 ≤ x.f1) ∧ Below w.heap.size w w' := by
  have S0 := sourceC v xs w hrow hB hl
  have D0 := dt_new hrow hB hl
  have H0 : Hid _ := And.intro S0 (And.intro D0 ((Below.refl w.heap.size w).alloc (Nat.le_refl _) (.cells #[v, .int .i64 0, .int .i64 ((xs.length : Int) % 1000)] 36)))
  have B0 : Hid (∀ u u' : World, Below w.heap.size w u → u.grownBy u' (some w.heap.size) → Below w.heap.size w u') := fun u u' hb hg => hb.grown hg hb.size (fun q hq => by have := Option.some.inj hq; omega)
  have B1 : Hid (∀ (u u' : World) (r : Option Nat), Below w.heap.size w u → u.grownBy u' r → (∀ k, r = some k → w.heap.size ≤ k) → Below w.heap.size w u') := fun u u' r hb hg hr => hb.grown hg hb.size hr
  clear S0 D0 hrow hB hl
  go_enter Try.func4, Try.ntmps4
  go_wp2_with fail
  go_at_call 7
  refine H0.out.1.mono ?_
  rintro e w1 ⟨rfl, hw1⟩
  have H1 : Hid _ := And.intro (show Dt w1 w.heap.size v xs 0 by rw [hw1]; exact H0.out.2.1) (And.intro (show Below w.heap.size w w1 by rw [hw1]; exact H0.out.2.2) (show w.heap.size + 1 ≤ w1.heap.size by rw [hw1]; simp))
  clear hw1 H0
  go_wp2_with fail
  go_at_call 9
  refine (sizeT w.heap.size v xs 0 12 _ (H1.out.1.alloc _) (by decide) (by decide)).mono ?_
  rintro e w2 ⟨k, rfl, k0, k12, hw2⟩
  subst w2
  go_wp2_with fail
  go_at_call 8
  refine (nextT w.heap.size v xs 0 (k + 1) _ (H1.out.1.alloc _) (by decide) (by omega) (by omega)).mono ?_
  rintro e w3 ⟨n, rfl, n0, n1, d3, g3⟩
  obtain ⟨m, rfl⟩ := Int.eq_ofNat_of_zero_le n0
  have H3 : Hid _ := And.intro d3 (And.intro (show GOwns 27 4 w3 (w.heap.size + 1) (.slice (some ⟨w1.heap.size, 0, none⟩) 0 0) (SWaiting.L []) from (GOwns.lit0 _ 4 w1 (w.heap.size + 1) H1.out.2.2).step g3 (by omega)) (And.intro (B0.out _ _ (H1.out.2.1.alloc (by have := H1.out.2.2; omega) _) g3) (show w.heap.size + 1 ≤ w3.heap.size by have h1 := g3.size; have h2 := H1.out.2.2; simp at h1; omega)))
  have hm : m ≤ 12 := by omega
  clear d3 g3 H1 n0 n1 k0 k12
  go_wp2_with fail
  go_loopw [4, 5] (fun r i wr => ∃ q : Nat, q ≤ 12 ∧ i = .int .i64 (q : Int) ∧ ∃ (z : Value) (L : List SWaiting), z = r ∧ L.length + q ≤ 12 ∧ GOwns 27 4 wr (w.heap.size + 1) z (SWaiting.L L) ∧ (∀ x ∈ L, 0 ≤ x.f1) ∧ Dt wr w.heap.size v xs (3 + 12 * (12 - (q : Int))) ∧ Below w.heap.size w wr ∧ w.heap.size + 1 ≤ wr.heap.size) (fun _ i _ => (intOf i).toNat)
  case atStart => exact ⟨m, hm, rfl, _, [], rfl, by simpa using hm, H3.out.2.1, (fun x hx => by cases hx), H3.out.1.mono (by omega), H3.out.2.2.1, H3.out.2.2.2⟩
  case round =>
    obtain ⟨q, hq, rfl, z, L, er, hL, ow, hu, hd, hb, hz⟩ := hrel
    obtain ⟨ao, cp, ez⟩ := ow.row.form
    obtain ⟨nz, enz⟩ : ∃ nz, nz = (SWaiting.L L).length := ⟨_, rfl⟩
    rw [← enz] at ez
    rw [← er]
    subst ez
    clear er enz
    by_cases hlt : 0 < q
    · have h4 : (0 : Int) < q := by omega
      have HL : Hid _ := And.intro hL (And.intro ow (And.intro hu (And.intro hb hz)))
      have HD : Hid _ := And.intro hd True.intro
      obtain ⟨P, eP⟩ : ∃ P : Int, P = 3 + 12 * (12 - (q : Int)) := ⟨_, rfl⟩
      have hP : P ≤ 200 := by omega
      have HP : Hid _ := And.intro eP True.intro
      rw [← eP] at HD
      clear hL ow hu hd hb hz eP H3
      go_wp2_with fail
      go_at_call 8
      refine (nextT w.heap.size v xs P 8 wr HD.out.1 (by omega) (by decide) (by decide)).mono ?_
      rintro e w4 ⟨a0, rfl, a0l, a0h, d4, g4⟩
      have H4 : Hid _ := And.intro d4 g4
      clear d4 g4
      go_wp2_with fail
      go_at_call 8
      refine (nextT w.heap.size v xs _ 4 w4 H4.out.1 (by omega) (by decide) (by decide)).mono ?_
      rintro e w5 ⟨a1, rfl, a1l, a1h, d5, g5⟩
      have H5 : Hid _ := And.intro d5 (grown_trans H4.out.2 g5)
      clear d5 g5 H4
      go_wp2_with fail
      go_at_call 8
      refine (nextT w.heap.size v xs _ 3 w5 H5.out.1 (by omega) (by decide) (by decide)).mono ?_
      rintro e w6 ⟨a2, rfl, a2l, a2h, d6, g6⟩
      have H6 : Hid _ := And.intro d6 (grown_trans H5.out.2 g6)
      clear d6 g6 H5
      go_wp2_with fail
      go_at_call 10
      refine (chanceT w.heap.size v xs _ 2 w6 H6.out.1 (by omega) (by decide) (by decide)).mono ?_
      rintro e w7 ⟨a3, rfl, d7, g7⟩
      have H7 : Hid _ := And.intro d7 (grown_trans H6.out.2 g7)
      clear d7 g7 H6
      have q1 : GOwns 27 4 (w7.alloc (.cells #[.int .i64 (4 * a0), .int .i64 a1, .int .i64 a2, .bool a3] 27)) (w.heap.size + 1) (.slice ao nz cp) (SWaiting.L L) := (HL.out.2.1.step H7.out.2 (by omega)).below ((Below.refl _ _).alloc (Nat.le_refl _) _)
      have q2 : GRow 4 (w7.alloc (.cells #[.int .i64 (4 * a0), .int .i64 a1, .int .i64 a2, .bool a3] 27)) (.slice (some ⟨w7.heap.size, 0, none⟩) 1 1) (SWaiting.L [⟨4 * a0, a1, a2, a3⟩]) := lit_flat w7 [.int .i64 (4 * a0), .int .i64 a1, .int .i64 a2, .bool a3] 27
      have q3 : (SWaiting.L L).length + (SWaiting.L [⟨4 * a0, a1, a2, a3⟩]).length ≤ 1099511627776 := by have := HL.out.1; simp; omega
      have q4 : w.heap.size + 1 ≤ (w7.alloc (.cells #[.int .i64 (4 * a0), .int .i64 a1, .int .i64 a2, .bool a3] 27)).heap.size := by have h1 := H7.out.2.size; have h2 := HL.out.2.2.2.2; simp; omega
      have HQ : Hid _ := And.intro q1 (And.intro q2 (And.intro q3 q4))
      clear q1 q2 q3 q4
      go_wp2_with (at_builtin; refine wpList_append_flat rfl _ _ 23 27 Try.underlying23 _ 4 32 infoWaiting rfl (by decide) (by decide) rfl (w.heap.size + 1) (.slice ao nz cp) (SWaiting.L L) (SWaiting.flat _) rfl HQ.out.1 _ (SWaiting.L [⟨4 * a0, a1, a2, a3⟩]) (SWaiting.flat _) rfl HQ.out.2.1 HQ.out.2.2.1 HQ.out.2.2.2 ?_; intro v8 w8 o8 g8)
      have hown := HL.out.2.1.high
      have H8 : Hid _ := And.intro (show GOwns 27 4 w8 (w.heap.size + 1) v8 (SWaiting.L (L ++ [⟨4 * a0, a1, a2, a3⟩])) by rw [SWaiting.L, List.map_append]; exact o8) (And.intro ((H7.out.1.alloc _).own g8 (fun k hk => by have := hown k hk; omega)) (And.intro (B1.out _ _ _ ((B0.out _ _ HL.out.2.2.2.1 H7.out.2).alloc (by have h1 := H7.out.2.size; have h2 := HL.out.2.2.2.2; omega) _) g8 (fun k hk => by have := hown k hk; omega)) (show w.heap.size + 1 ≤ w8.heap.size by have h1 := H7.out.2.size; have h2 := HL.out.2.2.2.2; have h3 := g8.size; simp at h3; omega)))
      clear o8 g8 hown H7
      go_wp2
      go_roundw
      case rel =>
        refine ⟨q - 1, by omega, by congr 1; omega, _, L ++ [⟨4 * a0, a1, a2, a3⟩], rfl, by have := HL.out.1; simp; omega, H8.out.1, fun x hx => ?_, H8.out.2.1.mono (by have := HP.out.1; omega), H8.out.2.2.1, H8.out.2.2.2⟩
        rcases List.mem_append.1 hx with h | h
        · exact HL.out.2.2.1 x h
        · obtain rfl := List.mem_singleton.1 h
          exact a1l
      case measure => simp [intOf]; omega
    · obtain rfl : q = 0 := by omega
      have HL : Hid _ := And.intro hL (And.intro ow (And.intro hu (And.intro hb hz)))
      have HD : Hid _ := And.intro hd True.intro
      clear hL ow hu hd hb hz H3
      go_wp2_with fail
      go_at_call 10
      refine (chanceT w.heap.size v xs _ 60 wr HD.out.1 (by decide) (by decide) (by decide)).mono ?_
      rintro e w7 ⟨c7, rfl, d7, g7⟩
      have H7 : Hid _ := And.intro d7 (And.intro g7 (B0.out _ _ HL.out.2.2.2.1 g7))
      clear d7 g7
      cases c7
      · go_wp2
        go_ret
        exact ⟨_, L, rfl, HL.out.2.1.step H7.out.2.1 (by omega), by have := HL.out.1; omega, HL.out.2.2.1, H7.out.2.2⟩
      · go_wp2_with fail
        go_at_call 8
        refine (nextT w.heap.size v xs _ 2 w7 H7.out.1 (by decide) (by decide) (by decide)).mono ?_
        rintro e w8 ⟨a0, rfl, a0l, a0h, d8, g8⟩
        have B8 := B0.out _ _ H7.out.2.2 g8
        have hz8 : w.heap.size + 1 ≤ w8.heap.size := by have h1 := g8.size; have h2 := H7.out.2.1.size; have h3 := HL.out.2.2.2.2; omega
        obtain ⟨n8, en8⟩ : ∃ n8 : Nat, (4096 : Int) + a0 = (n8 : Int) := ⟨(4096 + a0).toNat, by omega⟩
        obtain ⟨i0, hi, hz0, hz1, hz2⟩ := info_parts infoWaiting
        have H8 : Hid _ := And.intro B8 (And.intro hz8 (show n8 ≤ 4097 by omega))
        have w8n : IntKind.i64.wrap ((4096 : Int) + a0) = (n8 : Int) := by rw [IntKind.wrap_i64]; omega
        clear B8 hz8 d8 g8
        go_wp2_with (at_make; refine wpList_make_full _ rfl _ _ 23 rfl (w.heap.size + 1) 27 i0 (.agg #[.int .i64 0, .int .i64 0, .int .i64 0, .bool false]) 4 Try.underlying23 hi hz0 hz1 .i64 .i64 (n8 : Int) (n8 : Int) n8 rfl rfl rfl rfl (by rw [hz2]; have := H8.out.2.2; omega) (by unfold maxLen; have := H8.out.2.2; omega) H8.out.2.1 ?_; intro w9 hown hg)
        have H9 : Hid _ := And.intro hown (H8.out.1.grown hg H8.out.1.size (by intro k hk; cases hk))
        clear hown hg
        go_wp2
        go_ret
        refine ⟨_, List.replicate n8 ⟨0, 0, 0, false⟩, rfl, ?_, by have := H8.out.2.2; simp; omega, fun x hx => ?_, H9.out.2⟩
        · rw [SWaiting.L, List.map_replicate]
          exact GOwns.made (cs := [.int .i64 0, .int .i64 0, .int .i64 0, .bool false]) rfl H9.out.1
        · obtain ⟨_, rfl⟩ := List.mem_replicate.1 hx
          exact Int.le_refl 0
end Go.Proofs.Ytgkljhkmigapmaa
