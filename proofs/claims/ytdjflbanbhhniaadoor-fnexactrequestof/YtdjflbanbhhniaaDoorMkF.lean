import Derived.Test.YtdjflbanbhhniaaDoorFdR
import Derived.Test.YtdjflbanbhhniaaDoorStrC
import Derived.Deep.CutRange
namespace Go.Proofs.YtdjflbanbhhniaaDoor
open Go.RowKit
set_option linter.unusedVariables false

structure ChgQ (S : Nat → Prop) (w w' : World) : Prop where
  os : w'.os = w.os
  tape : w'.tape = w.tape
  output : w'.output = w.output
  size : w.heap.size ≤ w'.heap.size
  block : ∀ k, k < w.heap.size → ¬ S k → w'.heap[k]? = w.heap[k]?
theorem ChgQ.trans {S : Nat → Prop} {a b c : World} (h : ChgQ S a b) (k : ChgQ S b c) : ChgQ S a c :=
  ⟨k.os.trans h.os, k.tape.trans h.tape, k.output.trans h.output, Nat.le_trans h.size k.size, fun i hi hs => (k.block i (Nat.lt_of_lt_of_le hi h.size) hs).trans (h.block i hi hs)⟩
theorem ChgQ.of_below {S : Nat → Prop} {w w' : World} (h : Below w.heap.size w w') : ChgQ S w w' := ⟨h.os, h.tape, h.output, h.size, fun k hk _ => h.block k hk⟩
theorem ChgQ.of_only {S : Nat → Prop} {g : Option Nat} {w w' : World} (h : Only g w w') (hs : ∀ k, g = some k → S k) : ChgQ S w w' :=
  ⟨h.os, h.tape, h.output, Nat.le_of_eq h.size.symm, fun k hk hn => h.block k (fun e => hn (hs k e.symm))⟩
theorem ChgQ.below {S : Nat → Prop} {w w' : World} (h : ChgQ S w w') {B : Nat} (hB : B ≤ w.heap.size) (hs : ∀ k, S k → B ≤ k) : Below B w w' :=
  ⟨h.os, h.tape, h.output, h.size, fun k hk => h.block k (by omega) (fun e => by have := hs k e; omega)⟩
theorem ChgQ.set' {S : Nat → Prop} {w w' : World} (h : ChgQ S w w') (g i : Nat) (u : Value) (hg : S g) : ChgQ S w (w'.setCell ⟨g, i, none⟩ u) :=
  ⟨h.os, h.tape, h.output, by have := h.size; simpa [World.setCell] using this, fun k hk hs => (bk_other (k := k) (g := g) (fun e => hs (by rw [e]; exact hg)) i u).trans (h.block k hk hs)⟩
theorem rc_setFQ : ∀ (L : List SField) (j : Nat) (b v : ByteArray), ((rcQ L).set (j * 2) (.string b)).set (j * 2 + 1) (.string v) = rcQ (L.set j ⟨b, v⟩)
  | [], j, b, v => by simp [rcQ]
  | x :: r, 0, b, v => by simp [rcQ]
  | x :: r, j + 1, b, v => by
    have := rc_setFQ r j b v
    rw [show (j + 1) * 2 = j * 2 + 1 + 1 by omega]
    simpa [rcQ] using this
theorem drew_belowQ (w : World) : Below w.heap.size w w.drew := below_drewN (Below.refl _ _) 1
theorem GOwns.chgQ {S : Nat → Prop} {w w' : World} {base : Nat} {v : Value} {L : List (List Value)} (h : GOwns 44 2 w base v L) (c : ChgQ S w w') (hs : ∀ k, v.ownBlock = some k → ¬ S k) : GOwns 44 2 w' base v L := by
  obtain ⟨zs, ⟨hl, h2⟩, hz⟩ := h
  refine ⟨zs, ⟨hl, ?_⟩, hz⟩
  rcases h2 with h2 | ⟨g, cap, cur, rfl, hg, hh, r⟩
  · exact Or.inl h2
  · exact Or.inr ⟨g, cap, cur, rfl, hg, (c.block g (Array.getElem?_eq_some_iff.1 hh).1 (hs g rfl)).trans hh, r⟩
theorem GOwns.ltFQ {w : World} {base : Nat} {v : Value} {L : List (List Value)} (h : GOwns 44 2 w base v L) : ∀ k, v.ownBlock = some k → base ≤ k ∧ k < w.heap.size := by
  intro k hk
  obtain ⟨zs, ho, _⟩ := h
  exact ho.lt k hk
/-- The mark of a place. -/
def mkFQ1 (k : Int) (j : Nat) : SField := ⟨mkT (k + 2 * j), mkT (k + 2 * j + 1)⟩
def MPQ (P : List SField) (k : Int) (n i : Nat) : Prop := P.length = n ∧ ∀ j, j < i → P.getD j default = mkFQ1 k j
theorem MPQ.put {P : List SField} {k : Int} {n i : Nat} (h : MPQ P k n i) (hi : i < n) : MPQ (P.set i (mkFQ1 k i)) k n (i + 1) := by
  refine ⟨by rw [List.length_set]; exact h.1, fun j hj => ?_⟩
  by_cases e : j = i
  · subst e
    simp [List.getD, h.1, hi]
  · have := h.2 j (by omega)
    simp only [List.getD, List.getElem?_set_ne (Ne.symm e)]
    exact this
def oBQ (v : Value) : Nat → Prop := fun q => v.ownBlock = some q
set_option maxRecDepth 20000 in
set_option maxHeartbeats 4000000 in
theorem markFQ (v : Value) (L : List SField) (base : Nat) (k : Int) (w : World) (h : GOwns 44 2 w base v (SField.L L)) (hn : L.length ≤ 1048576) (h0 : 0 ≤ k) (hk : k ≤ 100000000) :
    Calls Tryd.prog 12 #[v, .int .i64 k] w fun e w' => e = .returned (.int .i64 (k + 2 * (L.length : Int))) ∧ (∃ P, MPQ P k L.length L.length ∧ GOwns 44 2 w' base v (SField.L P)) ∧ ChgQ (oBQ v) w w' := by
  obtain ⟨n, en⟩ : ∃ n, n = L.length := ⟨_, rfl⟩
  have ho := h.cellsFQ
  rw [← en] at hn ho ⊢
  rcases ho.2 with ⟨rfl, e0⟩ | ⟨g, cap, cur, rfl, hbg, _, hnc, _⟩
  · have HH : Hid _ := And.intro h en
    clear ho h en
    subst e0
    go_enter Tryd.func12, Tryd.ntmps12
    go_wp2_with fail
    refine wp_loop_rounds 1 ?_
    rw [rounds_succ]
    go_wp2
    go_ret
    exact ⟨by simp, ⟨L, ⟨HH.out.2.symm, fun j hj => by omega⟩, HH.out.1⟩, ChgQ.of_below (Below.refl _ _)⟩
  · have HH : Hid _ := And.intro ho (And.intro en hbg)
    clear ho h en
    go_enter Tryd.func12, Tryd.ntmps12
    go_wp2_with fail
    go_loopw [1, 5] (fun kv iv wr => ∃ (i : Nat) (P : List SField), i ≤ n ∧ kv = .int .i64 (k + 2 * (i : Int)) ∧ iv = .int .i64 (i : Int) ∧ MPQ P k n i ∧ wr.ownsRow base 44 2 (.slice (some ⟨g, 0, none⟩) n cap) n (rcQ P) ∧ ChgQ (oBQ (.slice (some ⟨g, 0, none⟩) n cap)) w wr) (fun _ iv _ => n - (intOf iv).toNat)
    case atStart => exact ⟨0, L, by omega, by simp, rfl, ⟨HH.out.2.1.symm, fun j hj => by omega⟩, HH.out.1, ChgQ.of_below (Below.refl _ _)⟩
    case round =>
      obtain ⟨i, P, hi, rfl, rfl, hP, ow, cw⟩ := hrel
      by_cases hlt : i < n
      · have hput := hP.put hlt
        obtain ⟨K, eK⟩ : ∃ K, K = k + 2 * (i : Int) := ⟨_, rfl⟩
        have hK0 : 0 ≤ K := by omega
        have hK1 : K ≤ 1000000000 := by omega
        have CA : ∀ u, _ := fun u => markTextC K u (by omega)
        have CB : ∀ u, _ := fun u => markTextC (K + 1) u (by omega)
        have ePut : P.set i (mkFQ1 k i) = P.set i ⟨mkT K, mkT (K + 1)⟩ := by rw [eK]; rfl
        rw [ePut] at hput
        obtain ⟨a, ea⟩ : ∃ a, a = mkT K := ⟨_, rfl⟩
        obtain ⟨c, ec⟩ : ∃ c, c = mkT (K + 1) := ⟨_, rfl⟩
        rw [← ea] at hput CA
        rw [← ec] at hput CB
        have eK2 : k + 2 * ((i + 1 : Nat) : Int) = K + 1 + 1 := by omega
        have d0 : i * 2 < n * 2 := by omega
        have d1 : i * 2 + 1 < n * 2 := by omega
        have H1 : Hid _ := And.intro CA (And.intro CB (And.intro hput (And.intro ow (And.intro cw (And.intro hP.1 eK2)))))
        rw [← eK]
        clear CA CB hput ow cw ePut ea ec hP eK eK2
        go_wp2_with fail
        go_at_call 23
        refine (H1.out.1 wr).mono ?_
        rintro e w2 ⟨rfl, b2⟩
        have ow2 := owns_below H1.out.2.2.2.1 b2
        have rl : (rcQ P).length = n * 2 := by rw [rc_lengthFQ, H1.out.2.2.2.2.2.1]; omega
        obtain ⟨z0, hz0⟩ : ∃ z, (rcQ P)[i * 2]? = some z := ⟨(rcQ P)[i * 2]'(by omega), by simp [rl, d0]⟩
        have s0 : w2.cell? ⟨g, i * 2, none⟩ = some z0 := (ow2.cellAt (i * 2) d0).trans hz0
        have f0 := ow2.frozenAt (i * 2)
        have ow3 := (ow2.stored (i * 2) (.string a)).1
        have H2 : Hid _ := And.intro ow3 (And.intro ((H1.out.2.2.2.2.1.trans (ChgQ.of_below b2)).set' g (i * 2) (.string a) rfl) rl)
        clear ow2 ow3 b2 hz0 rl
        go_wp2_with fail
        go_at_call 23
        refine (H1.out.2.1 _).mono ?_
        rintro e w4 ⟨rfl, b4⟩
        have ow4 := owns_below H2.out.1 b4
        obtain ⟨z1, hz1⟩ : ∃ z, ((rcQ P).set (i * 2) (.string a))[i * 2 + 1]? = some z := ⟨((rcQ P).set (i * 2) (.string a))[i * 2 + 1]'(by rw [List.length_set, H2.out.2.2]; exact d1), by simp [H2.out.2.2, d1]⟩
        have s1 : w4.cell? ⟨g, i * 2 + 1, none⟩ = some z1 := (ow4.cellAt (i * 2 + 1) d1).trans hz1
        have f1 := ow4.frozenAt (i * 2 + 1)
        have ow5 := (ow4.stored (i * 2 + 1) (.string c)).1
        rw [rc_setFQ] at ow5
        have H3 : Hid _ := And.intro ow5 ((H2.out.2.1.trans (ChgQ.of_below b4)).set' g (i * 2 + 1) (.string c) rfl)
        clear ow4 ow5 b4 hz1 s0 f0
        go_wp2
        go_roundw
        case rel => exact ⟨i + 1, _, by omega, by rw [H1.out.2.2.2.2.2.2], by go_num, H1.out.2.2.1, H3.out.1, H3.out.2⟩
        case measure => simp [intOf]; omega
      · obtain rfl : i = n := by omega
        have H1 : Hid _ := And.intro hP (And.intro ow cw)
        obtain ⟨K, eK⟩ : ∃ K, K = k + 2 * (i : Int) := ⟨_, rfl⟩
        have EK : Hid _ := And.intro eK True.intro
        rw [← eK]
        clear hP ow cw eK
        go_wp2
        go_ret
        exact ⟨by rw [EK.out.1]; rfl, ⟨P, H1.out.1, GOwns.ofFQ (by rw [H1.out.1.1]; exact H1.out.2.1)⟩, H1.out.2.2⟩
set_option maxRecDepth 20000 in
set_option maxHeartbeats 4000000 in
theorem heldFQ (v : Value) (P : List SField) (n base : Nat) (k : Int) (w : World) (h : GOwns 44 2 w base v (SField.L P)) (hP : MPQ P k n n) (hn : n ≤ 1048576) (h0 : 0 ≤ k) (hk : k ≤ 100000000) :
    Calls Tryd.prog 13 #[v, .int .i64 k] w fun e w' => e = .returned (.int .i64 (k + 2 * (n : Int))) ∧ Below w.heap.size w w' := by
  have ho := h.cellsFQ
  rw [hP.1] at ho
  rcases ho.2 with ⟨rfl, e0⟩ | ⟨g, cap, cur, rfl, hbg, _, hnc, _⟩
  · clear ho h hP
    subst e0
    go_enter Tryd.func13, Tryd.ntmps13
    go_wp2_with fail
    refine wp_loop_rounds 1 ?_
    rw [rounds_succ]
    go_wp2
    go_ret
    exact ⟨by simp, Below.refl _ _⟩
  · have HH : Hid _ := And.intro ho hP
    clear ho h hP
    go_enter Tryd.func13, Tryd.ntmps13
    go_wp2_with fail
    go_loopw [1, 5] (fun kv iv wr => ∃ (i : Nat), i ≤ n ∧ kv = .int .i64 (k + 2 * (i : Int)) ∧ iv = .int .i64 (i : Int) ∧ Below w.heap.size w wr) (fun _ iv _ => n - (intOf iv).toNat)
    case atStart => exact ⟨0, by omega, by simp, rfl, Below.refl _ _⟩
    case round =>
      obtain ⟨i, hi, rfl, rfl, bw⟩ := hrel
      by_cases hlt : i < n
      · have hat := HH.out.2.2 i hlt
        have hiP : i < P.length := by rw [HH.out.2.1]; exact hlt
        obtain ⟨K, eK⟩ : ∃ K, K = k + 2 * (i : Int) := ⟨_, rfl⟩
        have hK0 : 0 ≤ K := by omega
        have hK1 : K ≤ 1000000000 := by omega
        have CA : ∀ u, _ := fun u => markTextC K u (by omega)
        have CB : ∀ u, _ := fun u => markTextC (K + 1) u (by omega)
        have eF : mkFQ1 k i = ⟨mkT K, mkT (K + 1)⟩ := by rw [eK]; rfl
        rw [eF] at hat
        have g0 := rc_get0FQ P i hiP
        have g1 := rc_get1FQ P i hiP
        rw [hat] at g0 g1
        obtain ⟨a, ea⟩ : ∃ a, a = mkT K := ⟨_, rfl⟩
        obtain ⟨c, ec⟩ : ∃ c, c = mkT (K + 1) := ⟨_, rfl⟩
        rw [← ea] at g0 CA
        rw [← ec] at g1 CB
        have eK2 : k + 2 * ((i + 1 : Nat) : Int) = K + 1 + 1 := by omega
        have d0 : i * 2 < n * 2 := by omega
        have d1 : i * 2 + 1 < n * 2 := by omega
        have S0 : ∀ u, Below w.heap.size w u → u.cell? ⟨g, i * 2, none⟩ = some (.string a) := fun u hb => ((owns_below HH.out.1 hb).cellAt (i * 2) d0).trans g0
        have S1 : ∀ u, Below w.heap.size w u → u.cell? ⟨g, i * 2 + 1, none⟩ = some (.string c) := fun u hb => ((owns_below HH.out.1 hb).cellAt (i * 2 + 1) d1).trans g1
        have na : (a != a) = false := by simp [bne, show (a == a) = true by show (a.data == a.data) = true; exact beq_self_eq_true _]
        have nc : (c != c) = false := by simp [bne, show (c == c) = true by show (c.data == c.data) = true; exact beq_self_eq_true _]
        have bd := bw.trans ((drew_belowQ wr).mono bw.size)
        have s0 := S0 _ bd
        have H1 : Hid _ := And.intro CA (And.intro CB (And.intro S0 (And.intro S1 (And.intro bd eK2))))
        rw [← eK]
        clear CA CB S0 S1 eF ea ec eK eK2 hat hiP g0 g1 bd bw
        go_upto_region 4 with fail
        go_cut [19] from 12 to 19 (fun b wx => b = .bool false ∧ Below w.heap.size w wx)
        case first =>
          go_region_with (go_at_call 23; refine (H1.out.1 wr.drew).mono ?_; rintro e wz ⟨rfl, bz⟩; have bb := H1.out.2.2.2.2.1.trans (bz.mono H1.out.2.2.2.2.1.size); have s0' := H1.out.2.2.1 _ bb; have HZ : Hid _ := And.intro bb True.intro; clear bz bb)
          all_goals
            go_simp
            go_wp2_with fail
            go_meet
            exact ⟨rfl, HZ.out.1⟩
        case rest =>
          obtain ⟨rfl, hbl⟩ := hcut
          rename World => wx
          have bd2 := hbl.trans ((drew_belowQ wx).mono hbl.size)
          have s1 := H1.out.2.2.2.1 _ bd2
          have H2 : Hid _ := And.intro bd2 True.intro
          clear hbl bd2 s0
          go_upto_region 7 with fail
          go_region_with (go_at_call 23; refine (H1.out.2.1 wx.drew).mono ?_; rintro e wz ⟨rfl, bz⟩; have bb := H2.out.1.trans (bz.mono H2.out.1.size); have s1' := H1.out.2.2.2.1 _ bb; have HZ : Hid _ := And.intro bb True.intro; clear bz bb)
          all_goals
            go_simp
            go_wp2_with fail
            go_roundw
            case rel => exact ⟨i + 1, by omega, by rw [H1.out.2.2.2.2.2], by go_num, HZ.out.1⟩
            case measure => simp [intOf]; omega
      · obtain rfl : i = n := by omega
        obtain ⟨K, eK⟩ : ∃ K, K = k + 2 * (i : Int) := ⟨_, rfl⟩
        have EK : Hid _ := And.intro eK bw
        rw [← eK]
        clear eK bw
        go_wp2
        go_ret
        exact ⟨by rw [EK.out.1]; rfl, EK.out.2⟩
end Go.Proofs.YtdjflbanbhhniaaDoor
