import Derived.Test.YtocinjcbkolnhaaTdA
namespace Go.Proofs.Ytocinjcbkolnhaa
open Go.RowKit
set_option linter.unusedVariables false

set_option maxRecDepth 20000 in
theorem addI_bad (G R base f : Nat) (mo ca ad cost : Int) (a c : ByteArray) (RL : List SField) (w : World) (ot : OT w G R base f mo ca ad cost RL) (ha : a.size ≤ 1048576) (hc : c.size ≤ 1048576) (hx : fOK a c = false ∨ ad = 4611686018427387902) :
    Calls Try.prog 21 #[.pointer (some ⟨G, 0, none⟩), .agg #[.string a, .string c]] w fun e w' => e = .returned (.int .i64 1) ∧ Below w.heap.size w w' := by
  have b0 : Below w.heap.size w (w.alloc (.cells #[.string a, .string c] 35)) := (Below.refl _ _).alloc (Nat.le_refl _) _
  have CV : ∀ u, _ := fun u => fieldI a c u (by omega) (by omega)
  have CF : ∀ u, Below w.heap.size w u → _ := fun u hb => fullI G R base f mo ca ad cost RL u (ot.below hb)
  cases e : fOK a c with
  | false =>
    rw [e] at CV
    have H : Hid _ := And.intro CV b0
    clear CV CF b0 ot hx e
    go_enter Try.func21, Try.ntmps21
    go_wp2_with (go_at_call 29; refine (H.out.1 _).mono ?_; rintro e w1 ⟨rfl, b1⟩; have H1 : Hid _ := And.intro (H.out.2.trans (b1.mono H.out.2.size)) True.intro; clear b1)
    go_ret
    exact ⟨rfl, H1.out.1⟩
  | true =>
    have ead : ad = 4611686018427387902 := by rcases hx with h | h; rw [e] at h; cases h; exact h
    subst ead
    rw [e] at CV
    have H : Hid _ := And.intro CV (And.intro b0 CF)
    clear CV CF b0 ot hx e
    go_enter Try.func21, Try.ntmps21
    go_wp2_with (first
      | (go_at_call 29; refine (H.out.1 _).mono ?_; rintro e w1 ⟨rfl, b1⟩; have H1 : Hid _ := And.intro (H.out.2.1.trans (b1.mono H.out.2.1.size)) True.intro; clear b1)
      | (go_at_call 30; refine (H.out.2.2 _ H1.out.1).mono ?_; rintro e w2 ⟨rfl, b2⟩; have H2 : Hid _ := And.intro (H1.out.1.trans (b2.mono H1.out.1.size)) True.intro; clear b2))
    go_ret
    exact ⟨rfl, H2.out.1⟩
set_option maxRecDepth 20000 in
theorem addI_big (G R base f : Nat) (mo ca ad cost : Int) (a c : ByteArray) (RL : List SField) (w : World) (ot : OT w G R base f mo ca ad cost RL) (ha : (a.size : Int) + c.size ≤ 1048576) (hv : fOK a c = true) (hd : ad ≤ 4611686018427387901) (hb : ca < cst ⟨a, c⟩) :
    Calls Try.prog 21 #[.pointer (some ⟨G, 0, none⟩), .agg #[.string a, .string c]] w fun e w' => e = .returned (.int .i64 16) ∧ Below w.heap.size w w' := by
  have A0 := After.new w (.cells #[.string a, .string c] 35)
  have CV : ∀ u, _ := fun u => fieldI a c u (by omega) (by omega)
  have CF : ∀ u, Below w.heap.size w u → _ := fun u hb => fullI G R base f mo ca ad cost RL u (ot.below hb)
  have CC : ∀ u, _ := fun u => costI ⟨a, c⟩ u ha
  have CO : ∀ u, Below w.heap.size w u → _ := fun u hb => (ot.below hb).cells.2.2.2.1
  have ed : (ad == 4611686018427387902) = false := by simp; omega
  rw [hv] at CV
  obtain ⟨D, eD⟩ : ∃ D, D = cst ⟨a, c⟩ := ⟨_, rfl⟩
  rw [← eD] at CC hb
  rw [ed] at CF
  have H : Hid _ := And.intro CV (And.intro A0 (And.intro CF (And.intro CC CO)))
  clear CV CF A0 CC CO ot hv eD ed
  go_enter Try.func21, Try.ntmps21
  go_wp2_with (first
    | (go_at_call 29; refine (H.out.1 _).mono ?_; rintro e w1 ⟨rfl, b1⟩; have H1 : Hid _ := And.intro (H.out.2.1.next b1) True.intro; clear b1)
    | (go_at_call 30; refine (H.out.2.2.1 _ (After.below H1.out.1)).mono ?_; rintro e w2 ⟨rfl, b2⟩; have H2 : Hid _ := And.intro (H1.out.1.next b2) True.intro; clear b2; obtain ⟨_, y0, y1, _, _⟩ := After.cells2 H2.out.1)
    | (go_at_call 31; refine (H.out.2.2.2.1 _).mono ?_; rintro e w3 ⟨rfl, b3⟩; have H3 : Hid _ := And.intro (H2.out.1.next b3) True.intro; clear b3; have g3 := H.out.2.2.2.2 _ (After.below H3.out.1)))
  go_ret
  exact ⟨rfl, After.below H3.out.1⟩
set_option maxRecDepth 20000 in
set_option maxHeartbeats 4000000 in
theorem addI_ok (G R base f n : Nat) (mo ca ad : Int) (a c : ByteArray) (RL L : List SField) (w : World) (ot : OT w G R base f mo ca ad (csts L) RL) (hR : RingHas RL f L n) (en : L.length = n) (hn : n ≤ 124) (ht : txs L ≤ 1048576) (ef : ad = (f : Int) + n) (ha : (a.size : Int) + c.size ≤ 1048576) (hv : fOK a c = true) (hd : ad ≤ 4611686018427387901) (hb : cst ⟨a, c⟩ ≤ ca) (hca : ca ≤ 4096) (hlen : n - gng (ca - cst ⟨a, c⟩) L < 124) :
    Calls Try.prog 21 #[.pointer (some ⟨G, 0, none⟩), .agg #[.string a, .string c]] w fun e w' => e = .returned (.int .i64 0) ∧ (∃ RL' A, A = gng (ca - cst ⟨a, c⟩) L ∧ OT w' G R base ((f + A : Nat) : Int) mo ca (ad + 1) (csts (L.drop A) + cst ⟨a, c⟩) RL' ∧ RingHas RL' (f + A) (L.drop A ++ [⟨a, c⟩]) (n - A + 1)) ∧ ChgF (K2F G R) w w' := by
  have A0 := After.new w (.cells #[.string a, .string c] 35)
  obtain ⟨gl, rl, bl⟩ := ot.lt
  have hlo := cst_lo ⟨a, c⟩
  have CV : ∀ u, _ := fun u => fieldI a c u (by omega) (by omega)
  have CF : ∀ u, Below w.heap.size w u → _ := fun u hb => fullI G R base f mo ca ad (csts L) RL u (ot.below hb)
  have CC : ∀ u, _ := fun u => costI ⟨a, c⟩ u ha
  have CO : ∀ u, Below w.heap.size w u → _ := fun u hb => (ot.below hb).cells.2.2.2.1
  have ed : (ad == 4611686018427387902) = false := by simp; omega
  rw [hv] at CV
  obtain ⟨D, eD⟩ : ∃ D, D = cst ⟨a, c⟩ := ⟨_, rfl⟩
  rw [← eD] at CC hb hlo hlen ⊢
  rw [ed] at CF
  have CM : ∀ u, Below w.heap.size w u → _ := fun u hw => makeRoomI G R base f n mo ca ad D RL L u (ot.below hw) hR en hn ht (by omega) (by omega) hb hca
  have hA := gng_le (ca - D) L
  obtain ⟨A, eA⟩ : ∃ A, A = gng (ca - D) L := ⟨_, rfl⟩
  rw [← eA] at hA hlen
  have hdl : (L.drop A).length = n - A := by rw [List.length_drop, en]
  have hcs : csts (L.drop A) ≤ 1000000000 := by
    have h := csts_app (L.take A) (L.drop A)
    rw [List.take_append_drop] at h
    have := csts_nn (L.take A)
    rw [csts_txs L] at h
    omega
  have hnn := csts_nn (L.drop A)
  obtain ⟨p, ep⟩ : ∃ p, p = (f + n) % 124 := ⟨_, rfl⟩
  have hp : p < 124 := by omega
  have CW : ∀ u : World, u.cell? ⟨G, 0, none⟩ = some (.slice (some ⟨R, 0, none⟩) 124 124) → Calls Try.prog 33 #[.pointer (some ⟨G, 0, none⟩), .int .i64 ad] u fun e w' => e = .returned (.pointer (some ⟨R, p * 2, none⟩)) ∧ ∃ m, w' = u.drewN m := fun u h => by
    have := atF G 0 R (f + n) u h (by omega)
    rw [← ep, show ((f + n : Nat) : Int) = ad by omega] at this
    exact this
  have epA : (f + A + (n - A)) % 124 = p := by rw [ep]; congr 1; omega
  obtain ⟨S, eS⟩ : ∃ S, S = csts (L.drop A) := ⟨_, rfl⟩
  rw [← eS] at hcs hnn
  have H : Hid _ := And.intro CV (And.intro A0 (And.intro CF (And.intro CC CO)))
  have HM : Hid _ := And.intro CM (And.intro eA (And.intro hdl (And.intro CW (And.intro epA (And.intro eS ef)))))
  have hs0 : 0 ≤ S := by omega
  have hd2 : -4611686018427387904 ≤ ad := by omega
  clear CV CF A0 CC CO ot hv eD ed CM eA hdl CW epA eS ef hR en ht ep
  go_enter Try.func21, Try.ntmps21
  go_wp2_with (first
    | (go_at_call 29; refine (H.out.1 _).mono ?_; rintro e w1 ⟨rfl, b1⟩; have H1 : Hid _ := And.intro (H.out.2.1.next b1) True.intro; clear b1)
    | (go_at_call 30; refine (H.out.2.2.1 _ (After.below H1.out.1)).mono ?_; rintro e w2 ⟨rfl, b2⟩; have H2 : Hid _ := And.intro (H1.out.1.next b2) True.intro; clear b2; obtain ⟨_, y0, y1, _, _⟩ := After.cells2 H2.out.1)
    | (go_at_call 31; refine (H.out.2.2.2.1 _).mono ?_; rintro e w3 ⟨rfl, b3⟩; have H3 : Hid _ := And.intro (H2.out.1.next b3) True.intro; clear b3; have g3 := H.out.2.2.2.2 _ (After.below H3.out.1))
    | (go_at_call 32; refine (HM.out.1 _ (After.below H3.out.1)).mono ?_; rintro e w4 ⟨rfl, ⟨RL2, A2, eA2, o4, r4⟩, c4⟩; have H4 : Hid _ := And.intro eA2 (And.intro o4 (And.intro r4 c4)); clear eA2 o4 r4 c4))
  obtain rfl : A2 = A := H4.out.1.trans HM.out.2.1.symm
  have o4 := H4.out.2.1
  rw [← HM.out.2.2.2.2.2.1] at o4
  have kf := (H4.out.2.2.2.block w.heap.size (by have := Below.size H3.out.1; simp at this; omega) (fun e => by rcases e with e | e <;> omega)).trans (After.cells2 H3.out.1).1
  have zf : w.heap.size < w4.heap.size := (Array.getElem?_eq_some_iff.1 kf).1
  have cw : ChgF (K2F G R) w w4 := (ChgF.of_below (After.below H3.out.1)).trans H4.out.2.2.2
  clear y0 y1 g3
  have od := o4.below (drew_below w4)
  obtain ⟨t0, t1, t2, t3, t4, t5⟩ := od.cells
  obtain ⟨v0, v1, v2, v3⟩ := od.at p hp
  have y0 : w4.drew.cell? ⟨w.heap.size, 0, none⟩ = some (.string a) := by rw [bk_cell (show w4.drew.heap[w.heap.size]? = _ from kf)]; rfl
  have y1 : w4.drew.cell? ⟨w.heap.size, 1, none⟩ = some (.string c) := by rw [bk_cell (show w4.drew.heap[w.heap.size]? = _ from kf)]; rfl
  have H5 : Hid _ := And.intro od (And.intro (cw.trans (ChgF.of_below (drew_below w4))) (And.intro kf (And.intro (H4.out.2.2.1.more o4.len HM.out.2.2.1 hlen ⟨a, c⟩) t0)))
  have D0 : Hid _ := And.intro v0 (And.intro v1 (And.intro v2 v3))
  clear od o4 cw kf v0 v1 v2 v3
  go_cut [33] from 24 to 33 (fun _ wx => OT wx G R base ((f + A2 : Nat) : Int) mo ca ad S (RL2.set p ⟨a, c⟩) ∧ ChgF (K2F G R) w wx)
  case first =>
    go_region_with (go_at_call 33; refine (HM.out.2.2.2.1 w4.drew H5.out.2.2.2.2).mono ?_; rintro e wz ⟨rfl, m, hwz⟩; have HZ : Hid _ := And.intro hwz True.intro; have v0' : wz.cell? ⟨R, p * 2, none⟩ = some (.string (RL2.getD p default).f0) := (by rw [hwz]; exact D0.out.1); have v1' : wz.cell? ⟨R, p * 2 + 1, none⟩ = some (.string (RL2.getD p default).f1) := (by rw [hwz]; exact D0.out.2.1); have v2' : wz.frozen? ⟨R, p * 2, none⟩ = false := (by rw [hwz]; exact D0.out.2.2.1); have v3' : wz.frozen? ⟨R, p * 2 + 1, none⟩ = false := (by rw [hwz]; exact D0.out.2.2.2); have y0' : wz.cell? ⟨w.heap.size, 0, none⟩ = some (.string a) := (by rw [hwz]; exact y0); have y1' : wz.cell? ⟨w.heap.size, 1, none⟩ = some (.string c) := (by rw [hwz]; exact y1); clear hwz)
    all_goals
      have oz : OT wz G R base ((f + A2 : Nat) : Int) mo ca ad S RL2 := by rw [HZ.out.1]; exact H5.out.1.below (below_drewN (Below.refl _ _) m)
      have cz : ChgF (K2F G R) w wz := by rw [HZ.out.1]; exact H5.out.2.1.trans (ChgF.of_below (below_drewN (Below.refl _ _) m))
      have H6 : Hid _ := And.intro (oz.put p hp a c) ((cz.set' R (p * 2) (.string a) (Or.inr rfl)).set' R (p * 2 + 1) (.string c) (Or.inr rfl))
      clear oz cz
      go_wp2_with fail
      go_meet
      exact ⟨H6.out.1, H6.out.2⟩
  case rest =>
    obtain ⟨ox, cx⟩ := hcut
    rename World => wx
    clear t0 t1 t2 t3 t4 t5 y0 y1
    obtain ⟨t0, t1, t2, t3, t4, t5⟩ := ox.cells
    have g4 := bk_free ox.blk 4
    have g5 := bk_free ox.blk 5
    have o8 := (ox.setAdd (ad + 1)).setCost (S + D)
    have H7 : Hid _ := And.intro o8 ((cx.set' G 4 (.int .i64 (ad + 1)) (Or.inl rfl)).set' G 5 (.int .i64 (S + D)) (Or.inl rfl))
    clear ox cx o8
    go_wp2
    go_ret
    have hrr := H5.out.2.2.2.1
    rw [HM.out.2.2.2.2.1] at hrr
    exact ⟨rfl, ⟨_, A2, HM.out.2.1, by rw [← HM.out.2.2.2.2.2.1]; exact H7.out.1, hrr⟩, H7.out.2⟩
end Go.Proofs.Ytocinjcbkolnhaa
