import Derived.Test.YtmfbfophjnaapaaDoorHyF
import Derived.Test.YtmfbfophjnaapaaDoorPbA
import Derived.Deep.RegionHeld3
import Derived.Deep.CutRange
namespace Go.Proofs.YtmfbfophjnaapaaDoor
open Go.RowKit
set_option linter.unusedVariables false

/-- The bytes of settings. -/
def setB : List SSetting → List Int
  | [] => []
  | x :: r => (putv x.f0 ++ putv x.f1) ++ setB r
theorem setB_app : ∀ A B : List SSetting, setB (A ++ B) = setB A ++ setB B
  | [], B => rfl
  | x :: r, B => by simp only [List.cons_append, setB, setB_app r B, List.append_assoc]
theorem setB_succ (L : List SSetting) (k : Nat) (h : k < L.length) : setB (L.take (k + 1)) = (setB (L.take k) ++ putv (L.getD k default).f0) ++ putv (L.getD k default).f1 := by
  rw [List.take_add_one, List.getElem?_eq_getElem h, setB_app]
  simp [setB, List.getD, List.getElem?_eq_getElem h]
theorem setB_le (L : List SSetting) (h : sdP L) : ∀ k, k ≤ L.length → (setB (L.take k)).length ≤ 16 * k := by
  intro k
  induction k with
  | zero => intro _; simp [setB]
  | succ k ih =>
    intro hk
    have h1 := ih (by omega)
    have h2 := (h k (by omega)).1
    rw [hin_iff, hin_iff] at h2
    have a1 := putv_le (L.getD k default).f0 h2.1.1 h2.1.2
    have a2 := putv_le (L.getD k default).f1 h2.2.1 h2.2.2
    rw [setB_succ L k (by omega), List.length_append, List.length_append]
    omega
/-- The payload of a valid frame, and all its bytes. -/
def plB (f : HF) : List Int := ((if f.k = 7 ∨ f.k = 15 then putv f.a else []) ++ setB f.s) ++ f.d
def hyBy (f : HF) : List Int := putv f.k ++ (putv (plB f).length ++ plB f)
theorem plB_le (f : HF) (h : hyP f.k f.a f.d.length f.s) : (plB f).length ≤ 17000 := by
  obtain ⟨⟨h1, h2⟩, h3, h4⟩ := h
  rw [hin_iff] at h2
  have a1 := putv_le f.a h2.1 h2.2
  have a2 := setB_le f.s h3 f.s.length (Nat.le_refl _)
  rw [List.take_length] at a2
  unfold hyK at h4
  unfold plB
  simp only [List.length_append]
  split <;> (try simp only [List.length_nil]) <;> omega
theorem own_litH (w : World) : (w.alloc (.cells #[] 5)).ownsRow w.heap.size 5 1 (.slice (some ⟨w.heap.size, 0, none⟩) 0 0) ([] : List Int).length (([] : List Int).map (Value.int .u8)) := World.ownsRow_lit _ #[] 0 (Nat.le_refl _) (by decide) rfl
set_option maxRecDepth 20000 in
set_option maxHeartbeats 4000000 in
theorem plS (f : HF) (d s : Value) (w : World) (hd : Row w .u8 d f.d) (h : GRow 2 w s (SSetting.L f.s)) (hp : hyP f.k f.a f.d.length f.s) :
    Calls Tryd.prog 18 #[hV f d s] w fun e w' => ∃ r, e = .returned r ∧ w'.ownsRow w.heap.size 5 1 r (plB f).length ((plB f).map (Value.int .u8)) ∧ Below w.heap.size w w' := by
  have hple := plB_le f hp
  obtain ⟨⟨p1, p2⟩, p3, p4⟩ := hp
  rw [hin_iff] at p1 p2
  have hsl := setB_le f.s p3
  have hro := srow_form h
  have hrd := hd.form
  have A0 : Below (w.heap.size + 1) (w.alloc (.cells #[.int .i64 f.k, .int .i64 f.a, d, s] 31)) ((w.alloc (.cells #[.int .i64 f.k, .int .i64 f.a, d, s] 31)).alloc (.cells #[] 5)) := (Below.refl _ _).alloc (by simp) _
  have O0 := own_litH (w.alloc (.cells #[.int .i64 f.k, .int .i64 f.a, d, s] 31))
  rw [show (w.alloc (.cells #[.int .i64 f.k, .int .i64 f.a, d, s] 31)).heap.size = w.heap.size + 1 by simp] at O0
  have bA : ∀ u, Below (w.heap.size + 1) (w.alloc (.cells #[.int .i64 f.k, .int .i64 f.a, d, s] 31)) u → Below w.heap.size w u := fun u hu => ((Below.refl w.heap.size w).alloc (Nat.le_refl _) _).trans (hu.mono (by omega))
  have DD : ∀ u, Below (w.heap.size + 1) (w.alloc (.cells #[.int .i64 f.k, .int .i64 f.a, d, s] 31)) u → Row u .u8 d f.d := fun u hu => hd.below (bA u hu)
  have SS : ∀ u, Below (w.heap.size + 1) (w.alloc (.cells #[.int .i64 f.k, .int .i64 f.a, d, s] 31)) u → GRow 2 u s (SSetting.L f.s) := fun u hu => h.below (bA u hu)
  obtain ⟨ao, cp, rfl⟩ := hro
  obtain ⟨bo, cd, rfl⟩ := hrd
  obtain ⟨k, a, D, S⟩ := f
  unfold hV
  simp only at *
  obtain ⟨R, eR⟩ : ∃ R, R = plB ⟨k, a, D, S⟩ := ⟨_, rfl⟩
  rw [← eR] at hple ⊢
  unfold plB at eR
  simp only at eR
  obtain ⟨n, en⟩ : ∃ n, n = D.length := ⟨_, rfl⟩
  obtain ⟨m, em⟩ : ∃ m, m = S.length := ⟨_, rfl⟩
  rw [← en, ← em] at A0 O0 bA DD SS p4 ⊢
  have H : Hid _ := And.intro A0 (And.intro O0 (And.intro bA (And.intro DD SS)))
  clear A0 O0 bA DD SS h hd
  by_cases k4 : k = 4
  · subst k4
    have e0 : n = 0 ∧ m ≤ 16 := by unfold hyK at p4; omega
    obtain ⟨hn0, hm16⟩ := e0
    have eD : D = [] := List.eq_nil_of_length_eq_zero (by omega)
    rw [if_neg (by omega), eD, List.append_nil, List.nil_append] at eR
    have HE : Hid _ := And.intro eR (And.intro em (And.intro hsl p3))
    clear eR en em hsl p3 p4 eD p1 hple hn0
    go_enter Tryd.func18, Tryd.ntmps18
    go_wp2_with fail
    go_loopg [3, 4] m (fun q x i wr => ∃ j : Nat, j ≤ m ∧ q = m - j ∧ i = .int .i64 (j : Int) ∧ wr.ownsRow (w.heap.size + 1) 5 1 x (setB (S.take j)).length ((setB (S.take j)).map (Value.int .u8)) ∧ Below (w.heap.size + 1) (w.alloc (.cells #[.int .i64 4, .int .i64 a, .slice bo n cd, .slice ao m cp] 31)) wr)
    case atStart => exact ⟨0, by omega, by omega, rfl, H.out.2.1, H.out.1⟩
    case round =>
      obtain ⟨j, hj, rfl, rfl, ow, bw⟩ := hrel
      obtain ⟨y0, y1, y2, y3⟩ := hb_cells bw
      by_cases hlt : j < m
      · obtain ⟨b, off, rfl, hbl, cc⟩ := srow_at (H.out.2.2.2.2 wr bw) HE.out.2.1 j hlt
        have hv := (HE.out.2.2.2 j (by rw [← HE.out.2.1]; exact hlt)).1
        rw [hin_iff, hin_iff] at hv
        have hsu := setB_succ S j (by rw [← HE.out.2.1]; exact hlt)
        have hle := HE.out.2.2.1 j (by rw [← HE.out.2.1]; omega)
        obtain ⟨x0, ex0⟩ : ∃ x, x = (S.getD j default).f0 := ⟨_, rfl⟩
        obtain ⟨x1, ex1⟩ : ∃ x, x = (S.getD j default).f1 := ⟨_, rfl⟩
        rw [← ex0, ← ex1] at cc hv hsu
        have bd : Below wr.heap.size wr wr.drew := below_drewN (Below.refl _ _) 1
        have bwd := bw.trans (bd.mono (by have := bw.size; simpa using this))
        have hsz : w.heap.size + 1 ≤ wr.heap.size := by have := bw.size; simpa using this
        obtain ⟨z0, z1, z2, z3⟩ := hb_cells bwd
        obtain ⟨c0, c1⟩ := cc wr.drew bd
        have C1 := nC (w.heap.size + 1) _ (setB (S.take j)) x0 wr.drew (owns_below ow bd) hsz (by omega) hv.1.1 hv.1.2
        have HX : Hid _ := And.intro C1 (And.intro hv (And.intro hsu (And.intro hle (And.intro cc (And.intro bwd (putv_le x0 hv.1.1 hv.1.2))))))
        have HB : Hid _ := And.intro bw hsz
        have HO : Hid _ := And.intro ow bd
        have SC : Hid (∀ u, Below (w.heap.size + 1) (w.alloc (.cells #[.int .i64 4, .int .i64 a, .slice bo n cd, .slice (some ⟨b, off, none⟩) m cp] 31)) u → u.cell? ⟨b, off + j * 2, none⟩ = some (.int .i64 x0) ∧ u.cell? ⟨b, off + j * 2 + 1, none⟩ = some (.int .i64 x1)) := fun u hu => by
          obtain ⟨b', off', e', _, cc'⟩ := srow_at (H.out.2.2.2.2 u hu) HE.out.2.1 j hlt
          cases e'
          rw [ex0, ex1]
          exact cc' u (Below.refl _ _)
        clear C1 hv hsu hle cc bwd ow bw ex0 ex1 bd hsz
        have tok1 : Hid True := True.intro
        go_upto_region 8 with fail
        go_region_held3 (fun w' => w'.cell? ⟨w.heap.size, 3, none⟩ = some (.slice (some ⟨b, off, none⟩) m cp) ∧ w'.cell? ⟨b, off + j * 2, none⟩ = some (.int .i64 x0) ∧ w'.cell? ⟨b, off + j * 2 + 1, none⟩ = some (.int .i64 x1)) (go_keep)
          (first
          | (go_at_call 17; have _t := tok1; refine HX.out.1.mono ?_; rintro e w2 ⟨r2, rfl, o2, g2⟩; have b2 := HX.out.2.2.2.2.2.1.trans (g2.below (owns_below HO.out.1 HO.out.2) HB.out.2); have z3' := (hb_cells b2).2.2.2; have c0' := (SC.out w2 b2).1; have c1' := (SC.out w2 b2).2; have H2 : Hid _ := And.intro o2 (And.intro b2 (nC (w.heap.size + 1) _ (setB (S.take j) ++ putv x0) x1 w2 o2 (by have := b2.size; simpa using this) (by rw [List.length_append]; have := HX.out.2.2.2.1; have := HX.out.2.2.2.2.2.2; omega) HX.out.2.1.2.1 HX.out.2.1.2.2)); clear o2 g2 b2 tok1)
          | (go_at_call 17; refine H2.out.2.2.mono ?_; rintro e w3 ⟨r3, rfl, o3, g3⟩; have b3 := H2.out.2.1.trans (g3.below H2.out.1 (by have := H2.out.2.1.size; simpa using this)); have z4' := (hb_cells b3).2.2.2; have c03 := (SC.out w3 b3).1; have c13 := (SC.out w3 b3).2; have H3 : Hid _ := And.intro o3 b3; clear o3 g3 b3))
        all_goals
          go_wp2
          go_roundg (m - (j + 1))
          case measure => omega
          case rel => exact ⟨j + 1, by omega, rfl, by go_num, by rw [HX.out.2.2.1]; exact H3.out.1, H3.out.2⟩
      · obtain rfl : j = m := by omega
        have OW : Hid _ := And.intro ow bw
        clear ow bw
        go_wp2
        go_ret
        have o3 := OW.out.1
        rw [HE.out.2.1, List.take_length, ← HE.out.1] at o3
        exact ⟨_, rfl, owns_mono o3 (by omega), H.out.2.2.1 _ OW.out.2⟩
  have e4 : (k == 4) = false := by simp [k4]
  have O1 := H.out.2.1
  have hz1 : w.heap.size + 1 ≤ ((w.alloc (.cells #[.int .i64 k, .int .i64 a, .slice bo n cd, .slice ao m cp] 31)).alloc (.cells #[] 5)).heap.size := by simp
  by_cases k7 : k = 7
  · subst k7
    have e0 : n = 0 ∧ m = 0 := by unfold hyK at p4; omega
    have eD : D = [] := List.eq_nil_of_length_eq_zero (by omega)
    have eS : S = [] := List.eq_nil_of_length_eq_zero (by omega)
    rw [if_pos (by omega), eD, eS, List.append_nil, show setB [] = [] from rfl, List.append_nil] at eR
    have C1 := nC (w.heap.size + 1) _ [] a _ O1 hz1 (by simp) p2.1 p2.2
    have HX : Hid _ := And.intro C1 (And.intro eR (And.intro O1 hz1))
    clear C1 eR en em hsl p3 p4 eD eS p1 hple e0 O1 hz1
    go_enter Tryd.func18, Tryd.ntmps18
    go_wp2_with fail
    go_at_call 17
    refine HX.out.1.mono ?_
    rintro e w2 ⟨r2, rfl, o2, g2⟩
    have H2 : Hid _ := And.intro o2 (H.out.1.trans (g2.below HX.out.2.2.1 HX.out.2.2.2))
    clear o2 g2
    go_wp2
    go_ret
    have o3 := H2.out.1
    rw [List.nil_append, ← HX.out.2.1] at o3
    exact ⟨_, rfl, owns_mono o3 (by omega), H.out.2.2.1 _ H2.out.2⟩
  have e7 : (k == 7) = false := by simp [k7]
  by_cases k15 : k = 15
  · subst k15
    have e0 : n ≤ 1024 ∧ m = 0 := by unfold hyK at p4; omega
    have eS : S = [] := List.eq_nil_of_length_eq_zero (by omega)
    rw [if_pos (by omega), eS, show setB [] = [] from rfl, List.append_nil] at eR
    have bd : Below ((w.alloc (.cells #[.int .i64 15, .int .i64 a, .slice bo n cd, .slice ao m cp] 31)).alloc (.cells #[] 5)).heap.size ((w.alloc (.cells #[.int .i64 15, .int .i64 a, .slice bo n cd, .slice ao m cp] 31)).alloc (.cells #[] 5)) ((w.alloc (.cells #[.int .i64 15, .int .i64 a, .slice bo n cd, .slice ao m cp] 31)).alloc (.cells #[] 5)).drew := below_drewN (Below.refl _ _) 1
    have C1 := nC (w.heap.size + 1) _ [] a _ (owns_below O1 bd) hz1 (by simp) p2.1 p2.2
    have bD := H.out.1.trans (bd.mono hz1)
    have x1 := (hb_cells bD).2.1
    have x2 := (hb_cells bD).2.2.1
    have HX : Hid _ := And.intro C1 (And.intro eR (And.intro (owns_below O1 bd) (And.intro hz1 (And.intro bD (And.intro en (putv_le a p2.1 p2.2))))))
    have hn24 : n ≤ 1024 := e0.1
    clear C1 eR en em hsl p3 p4 eS p1 hple e0 O1 hz1 bd bD
    have tok1 : Hid True := True.intro
    go_enter Tryd.func18, Tryd.ntmps18
    go_upto_region 12 with fail
    go_region_held3 (fun w' => w'.cell? ⟨w.heap.size, 1, none⟩ = some (.int .i64 a) ∧ w'.cell? ⟨w.heap.size, 2, none⟩ = some (.slice bo n cd)) (go_keep)
      (first
      | (go_at_call 17; have _t := tok1; refine HX.out.1.mono ?_; rintro e w2 ⟨r2, rfl, o2, g2⟩; have b2 := HX.out.2.2.2.2.1.trans (g2.below HX.out.2.2.1 HX.out.2.2.2.1); have z1' := (hb_cells b2).2.1; have z2' := (hb_cells b2).2.2.1; have H2 : Hid _ := And.intro o2 b2; clear o2 g2 b2 tok1)
      | (refine step_append_row rfl _ _ rfl (w.heap.size + 1) _ _ ([] ++ putv a) rfl H2.out.1 (.slice bo n cd) D rfl (H.out.2.2.2.1 _ H2.out.2) (by have := HX.out.2.2.2.2.2.1; have := HX.out.2.2.2.2.2.2; simp; omega) (by have := H2.out.2.size; simpa using this) ?_; intro v9 w9 o9 g9; have b9 := H2.out.2.grown g9 (by have := H2.out.2.size; simpa using this) (fun q e => (H2.out.1.lt q e).1); have z19 := (hb_cells b9).2.1; have z29 := (hb_cells b9).2.2.1; have H9 : Hid _ := And.intro o9 b9; clear o9 g9 b9))
    all_goals
      go_wp2
      go_ret
      refine ⟨_, rfl, ?_, H.out.2.2.1 _ H9.out.2⟩
      have o3 := H9.out.1
      rw [List.nil_append, ← HX.out.2.1] at o3
      rw [show R.length = (putv a).length + D.length by rw [HX.out.2.1, List.length_append]]
      exact owns_mono o3 (by omega)
  have e15 : (k == 15) = false := by simp [k15]
  have e0 : n ≤ 16384 ∧ m = 0 := by unfold hyK at p4; omega
  have eS : S = [] := List.eq_nil_of_length_eq_zero (by omega)
  rw [if_neg (by omega), eS, show setB [] = [] from rfl, List.append_nil, List.nil_append] at eR
  have HX : Hid _ := And.intro eR (And.intro O1 (And.intro hz1 en))
  have hn24 : n ≤ 16384 := e0.1
  clear eR en em hsl p3 p4 eS p1 hple e0 O1 hz1
  go_enter Tryd.func18, Tryd.ntmps18
  go_wp2_with (at_builtin; refine wpList_append_row rfl _ _ rfl (w.heap.size + 1) _ _ [] rfl HX.out.2.1 (.slice bo n cd) D rfl (H.out.2.2.2.1 _ H.out.1) (by have := HX.out.2.2.2; simp; omega) HX.out.2.2.1 ?_; intro v9 w9 o9 g9)
  have b9 := H.out.1.grown g9 HX.out.2.2.1 (fun q e => (HX.out.2.1.lt q e).1)
  have H9 : Hid _ := And.intro o9 b9
  clear o9 g9 b9
  go_ret
  refine ⟨_, rfl, ?_, H.out.2.2.1 _ H9.out.2⟩
  have o3 := H9.out.1
  rw [List.nil_append, ← HX.out.1] at o3
  rw [show R.length = ([] : List Int).length + R.length by simp]
  exact owns_mono (base' := w.heap.size) o3 (by omega)
end Go.Proofs.YtmfbfophjnaapaaDoor
