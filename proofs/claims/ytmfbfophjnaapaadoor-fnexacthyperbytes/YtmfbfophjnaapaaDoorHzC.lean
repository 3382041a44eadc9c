import Derived.Test.YtmfbfophjnaapaaDoorHzB
import Derived.Test.YtmfbfophjnaapaaDoorHzP
namespace Go.Proofs.YtmfbfophjnaapaaDoor
open Go.RowKit
set_option linter.unusedVariables false

theorem fldH (b : Bool) (x y : Int) (w : World) : (Instr.field 58 (.agg #[.bool b, .int .i64 x, .int .i64 y]) 0).run Tryd.prog w = .ok (.bool b) w := by kernel_rfl
theorem laid2h (w : World) (x y : Value) (t : TypeId) : (w.alloc (.cells #[x, y] t)).cell? ⟨w.heap.size, 0, none⟩ = some x ∧ (w.alloc (.cells #[x, y] t)).cell? ⟨w.heap.size, 1, none⟩ = some y := by
  exact ⟨bk_cell (heap_alloc_new w (.cells #[x, y] t)) 0, bk_cell (heap_alloc_new w (.cells #[x, y] t)) 1⟩
theorem plB_num (f : HF) : plB f = ((if shN f.k then putv f.a else []) ++ setB f.s) ++ f.d := by
  unfold plB shN
  by_cases h : f.k = 7 ∨ f.k = 15 <;> simp [h]
set_option maxRecDepth 20000 in
set_option maxHeartbeats 4000000 in
theorem plI (f : HF) (d s : Value) (w : World) (ht : Tab w) (hd : Row w .u8 d f.d) (h : GRow 2 w s (SSetting.L f.s)) (hp : hyP f.k f.a f.d.length f.s) :
    Calls Tryd.prog 24 #[hV f d s] w fun e w' => ∃ r, e = .returned r ∧ w'.ownsRow w.heap.size 5 1 r (plB f).length ((plB f).map (Value.int .u8)) ∧ Below w.heap.size w w' := by
  have hple := plB_le f hp
  have hnum := plB_num f
  have hfd : f.d.length ≤ 16384 := by have := hp.2.2; unfold hyK at this; omega
  have hfs : f.s.length ≤ 16 := by have := hp.2.2; unfold hyK at this; omega
  obtain ⟨⟨p1, p2⟩, p3, p4⟩ := hp
  rw [hin_iff] at p1 p2
  have hsl := setB_le f.s p3
  have hro := srow_form h
  have hrd := hd.form
  have A0 : Below (w.heap.size + 1) (w.alloc (.cells #[.int .i64 f.k, .int .i64 f.a, d, s] 31)) (w.alloc (.cells #[.int .i64 f.k, .int .i64 f.a, d, s] 31)) := Below.refl _ _
  have bA : ∀ u, Below (w.heap.size + 1) (w.alloc (.cells #[.int .i64 f.k, .int .i64 f.a, d, s] 31)) u → Below w.heap.size w u := fun u hu => ((Below.refl w.heap.size w).alloc (Nat.le_refl _) _).trans (hu.mono (by omega))
  have TT : ∀ u, Below (w.heap.size + 1) (w.alloc (.cells #[.int .i64 f.k, .int .i64 f.a, d, s] 31)) u → Tab u := fun u hu => ht.below (bA u hu) ht.lt
  have DD : ∀ u, Below (w.heap.size + 1) (w.alloc (.cells #[.int .i64 f.k, .int .i64 f.a, d, s] 31)) u → Row u .u8 d f.d := fun u hu => hd.below (bA u hu)
  have SS : ∀ u, Below (w.heap.size + 1) (w.alloc (.cells #[.int .i64 f.k, .int .i64 f.a, d, s] 31)) u → GRow 2 u s (SSetting.L f.s) := fun u hu => h.below (bA u hu)
  obtain ⟨ao, cp, rfl⟩ := hro
  obtain ⟨bo, cd, rfl⟩ := hrd
  obtain ⟨k, a, D, S⟩ := f
  unfold hV
  simp only at *
  obtain ⟨R, eR⟩ : ∃ R, R = plB ⟨k, a, D, S⟩ := ⟨_, rfl⟩
  rw [← eR] at hple hnum ⊢
  clear eR
  have C0 := shapeI k (w.alloc (.cells #[.int .i64 k, .int .i64 a, .slice bo D.length cd, .slice ao S.length cp] 31))
  obtain ⟨n, en⟩ : ∃ n, n = D.length := ⟨_, rfl⟩
  obtain ⟨m, em⟩ : ∃ m, m = S.length := ⟨_, rfl⟩
  rw [← en, ← em] at A0 bA TT DD SS C0 ⊢
  obtain ⟨fl, efl⟩ : ∃ fl, fl = shN k := ⟨_, rfl⟩
  obtain ⟨d0, ed0⟩ : ∃ x, x = shD k := ⟨_, rfl⟩
  obtain ⟨d1, ed1⟩ : ∃ x, x = shS k := ⟨_, rfl⟩
  rw [← efl, ← ed0, ← ed1] at C0
  rw [← efl] at hnum
  obtain ⟨P0, eP0⟩ : ∃ P0, P0 = (if fl then putv a else []) := ⟨_, rfl⟩
  rw [← eP0] at hnum
  have hP0 : P0.length ≤ 8 := by rw [eP0]; split; exact putv_le a p2.1 p2.2; simp
  have hmm : m ≤ 16 := by rw [em]; exact hfs
  have H : Hid _ := And.intro A0 (And.intro bA (And.intro TT (And.intro DD (And.intro SS C0))))
  have HE : Hid _ := And.intro hnum (And.intro em (And.intro hsl (And.intro p3 (And.intro hP0 (And.intro en hfd)))))
  have HP : Hid _ := And.intro p2 (And.intro eP0 True.intro)
  clear A0 bA TT DD SS C0 h hd ht hnum em hsl p3 hP0 en hple p1 p2 p4 efl ed0 ed1 eP0 hfd hfs
  -- what holds behind the first number, and the loop over the settings
  go_enter Tryd.func24, Tryd.ntmps24
  go_wp2_with fail
  go_at_call 31
  refine H.out.2.2.2.2.2.mono ?_
  rintro e w1 ⟨rfl, b1⟩
  have A1 : Below (w.heap.size + 1) (w.alloc (.cells #[.int .i64 k, .int .i64 a, .slice bo n cd, .slice ao m cp] 31)) w1 := by simpa using b1
  obtain ⟨y0, y1, y2, y3⟩ := hb_cells A1
  have hz : w.heap.size + 1 ≤ w1.heap.size := by have := A1.size; simpa using this
  have H1 : Hid _ := And.intro A1 hz
  clear b1 A1 hz
  have hfl := fldH fl d0 d1
  cases fl with
  | false =>
    have OS : Hid _ := And.intro (show w1.ownsRow (w.heap.size + 1) 5 1 (.slice none 0 0) P0.length (P0.map (Value.int .u8)) by rw [HP.out.2.1]; exact World.ownsRow_nil _ _ _ _) H1.out.1
    go_wp2_with fail
    go_loopg [3, 18] m (fun q x i wr => ∃ j : Nat, j ≤ m ∧ q = m - j ∧ i = .int .i64 (j : Int) ∧ wr.ownsRow (w.heap.size + 1) 5 1 x (P0 ++ setB (S.take j)).length ((P0 ++ setB (S.take j)).map (Value.int .u8)) ∧ Below (w.heap.size + 1) (w.alloc (.cells #[.int .i64 k, .int .i64 a, .slice bo n cd, .slice ao m cp] 31)) wr)
    case atStart => exact ⟨0, by omega, by omega, rfl, by simpa [setB] using OS.out.1, OS.out.2⟩
    case round =>
      obtain ⟨j, hj, rfl, rfl, ow, bw⟩ := hrel
      obtain ⟨y0, y1, y2, y3⟩ := hb_cells bw
      by_cases hlt : j < m
      · obtain ⟨b, off, rfl, hbl, cc⟩ := srow_at (H.out.2.2.2.2.1 wr bw) HE.out.2.1 j hlt
        have hv := (HE.out.2.2.2.1 j (by rw [← HE.out.2.1]; exact hlt)).1
        rw [hin_iff, hin_iff] at hv
        have hsu := setB_succ S j (by rw [← HE.out.2.1]; exact hlt)
        have hle := HE.out.2.2.1 j (by rw [← HE.out.2.1]; omega)
        obtain ⟨c0, c1⟩ := cc wr (Below.refl _ _)
        obtain ⟨x0, ex0⟩ : ∃ x, x = (S.getD j default).f0 := ⟨_, rfl⟩
        obtain ⟨x1, ex1⟩ : ∃ x, x = (S.getD j default).f1 := ⟨_, rfl⟩
        rw [← ex0] at c0 hv hsu
        rw [← ex1] at c1 hv hsu
        have hsz : w.heap.size + 1 ≤ wr.heap.size := by have := bw.size; simpa using this
        have al : Below wr.heap.size wr ((wr.alloc (.cells #[.int .i64 x0, .int .i64 x1] 54)).alloc (.cells #[.int .i64 x0, .int .i64 x1] 3)) := ((Below.refl _ _).alloc (Nat.le_refl _) _).alloc (by simp) _
        have bal := bw.trans (al.mono hsz)
        have hoo := owns_below ow al
        have l2 := laid2h (wr.alloc (.cells #[.int .i64 x0, .int .i64 x1] 54)) (.int .i64 x0) (.int .i64 x1) 3
        rw [show (wr.alloc (.cells #[.int .i64 x0, .int .i64 x1] 54)).heap.size = wr.heap.size + 1 by simp] at l2
        have C2 := putN2h (w.heap.size + 1) _ (P0 ++ setB (S.take j)) x0 x1 (wr.heap.size + 1) _ (H.out.2.2.1 _ bal) hoo (Nat.le_trans hsz al.size) (fun u hu => H.out.2.2.1 _ (bal.trans hu)) (by rw [List.length_append]; have := HE.out.2.2.2.2.1; omega) hv.1.1 hv.1.2 hv.2.1 hv.2.2 (by simp) (fun e => by have := (ow.lt _ e).2; omega) l2.1 l2.2
        have HX : Hid _ := And.intro C2 (And.intro hsu (And.intro hoo (And.intro bal (Nat.le_trans hsz al.size))))
        clear C2 hsu hoo bal al ow bw hv hle cc ex0 ex1 l2 hsz
        go_wp2_with fail
        go_at_call 23
        refine HX.out.1.mono ?_
        rintro e w3 ⟨r3, rfl, o3, g3⟩
        have H3 : Hid _ := And.intro o3 (HX.out.2.2.2.1.trans (g3.below HX.out.2.2.1 HX.out.2.2.2.2))
        clear o3 g3
        go_wp2_with fail
        go_roundg (m - (j + 1))
        case measure => omega
        case rel => exact ⟨j + 1, by omega, rfl, by go_num, by rw [HX.out.2.1, ← List.append_assoc, ← List.append_assoc]; exact H3.out.1, H3.out.2⟩
      · obtain rfl : j = m := by omega
        have hsz : w.heap.size + 1 ≤ wr.heap.size := by have := bw.size; simpa using this
        have OW : Hid _ := And.intro ow (And.intro bw hsz)
        clear ow bw hsz
        go_wp2_with (at_builtin; refine wpList_append_row rfl _ _ rfl (w.heap.size + 1) _ _ (P0 ++ setB (S.take j)) rfl OW.out.1 (.slice bo n cd) D rfl (H.out.2.2.2.1 _ OW.out.2.1) (by have := HE.out.2.2.2.2.2.2; have := HE.out.2.2.1 j (by rw [← HE.out.2.1]; omega); have := HE.out.2.2.2.2.1; rw [List.length_append]; omega) OW.out.2.2 ?_; intro v9 w9 o9 g9)
        have b9 := OW.out.2.1.grown g9 OW.out.2.2 (fun q e => (OW.out.1.lt q e).1)
        have H9 : Hid _ := And.intro o9 b9
        clear o9 g9 b9
        go_ret
        refine ⟨_, rfl, ?_, H.out.2.1 _ H9.out.2⟩
        have o3 := H9.out.1
        have e1 : S.take j = S := by rw [HE.out.2.1]; exact List.take_length
        rw [e1, ← HE.out.1, show (P0 ++ setB S).length + D.length = R.length by rw [HE.out.1]; simp only [List.length_append]] at o3
        exact owns_mono (base' := w.heap.size) o3 (by omega)
  | true =>
    have al : Below w1.heap.size w1 (w1.alloc (.cells #[.int .i64 a] 3)) := (Below.refl _ _).alloc (Nat.le_refl _) _
    have C1 := putN1h (w.heap.size + 1) (.slice none 0 0) [] a w1.heap.size _ (H.out.2.2.1 _ (H1.out.1.trans (al.mono H1.out.2))) (World.ownsRow_nil _ _ _ _) (Nat.le_trans H1.out.2 al.size) (by simp) HP.out.1.1 HP.out.1.2 (laid1h w1 (.int .i64 a) 3)
    have HC : Hid _ := And.intro C1 (And.intro (H1.out.1.trans (al.mono H1.out.2)) (Nat.le_trans H1.out.2 al.size))
    clear C1 al
    go_wp2_with fail
    go_at_call 23
    refine HC.out.1.mono ?_
    rintro e w2 ⟨r2, rfl, o2, g2⟩
    have OS : Hid (w2.ownsRow (w.heap.size + 1) 5 1 r2 P0.length (P0.map (Value.int .u8)) ∧ Below (w.heap.size + 1) (w.alloc (.cells #[.int .i64 k, .int .i64 a, .slice bo n cd, .slice ao m cp] 31)) w2) := by
      refine ⟨?_, HC.out.2.1.trans (g2.below (World.ownsRow_nil _ _ _ _) HC.out.2.2)⟩
      rw [HP.out.2.1]
      exact o2
    clear o2 g2
    obtain ⟨x0', x1', x2', x3'⟩ := hb_cells OS.out.2
    go_wp2_with fail
    go_loopg [3, 18] m (fun q x i wr => ∃ j : Nat, j ≤ m ∧ q = m - j ∧ i = .int .i64 (j : Int) ∧ wr.ownsRow (w.heap.size + 1) 5 1 x (P0 ++ setB (S.take j)).length ((P0 ++ setB (S.take j)).map (Value.int .u8)) ∧ Below (w.heap.size + 1) (w.alloc (.cells #[.int .i64 k, .int .i64 a, .slice bo n cd, .slice ao m cp] 31)) wr)
    case atStart => exact ⟨0, by omega, by omega, rfl, by simpa [setB] using OS.out.1, OS.out.2⟩
    case round =>
      obtain ⟨j, hj, rfl, rfl, ow, bw⟩ := hrel
      obtain ⟨y0, y1, y2, y3⟩ := hb_cells bw
      by_cases hlt : j < m
      · obtain ⟨b, off, rfl, hbl, cc⟩ := srow_at (H.out.2.2.2.2.1 wr bw) HE.out.2.1 j hlt
        have hv := (HE.out.2.2.2.1 j (by rw [← HE.out.2.1]; exact hlt)).1
        rw [hin_iff, hin_iff] at hv
        have hsu := setB_succ S j (by rw [← HE.out.2.1]; exact hlt)
        have hle := HE.out.2.2.1 j (by rw [← HE.out.2.1]; omega)
        obtain ⟨c0, c1⟩ := cc wr (Below.refl _ _)
        obtain ⟨x0, ex0⟩ : ∃ x, x = (S.getD j default).f0 := ⟨_, rfl⟩
        obtain ⟨x1, ex1⟩ : ∃ x, x = (S.getD j default).f1 := ⟨_, rfl⟩
        rw [← ex0] at c0 hv hsu
        rw [← ex1] at c1 hv hsu
        have hsz : w.heap.size + 1 ≤ wr.heap.size := by have := bw.size; simpa using this
        have al : Below wr.heap.size wr ((wr.alloc (.cells #[.int .i64 x0, .int .i64 x1] 54)).alloc (.cells #[.int .i64 x0, .int .i64 x1] 3)) := ((Below.refl _ _).alloc (Nat.le_refl _) _).alloc (by simp) _
        have bal := bw.trans (al.mono hsz)
        have hoo := owns_below ow al
        have l2 := laid2h (wr.alloc (.cells #[.int .i64 x0, .int .i64 x1] 54)) (.int .i64 x0) (.int .i64 x1) 3
        rw [show (wr.alloc (.cells #[.int .i64 x0, .int .i64 x1] 54)).heap.size = wr.heap.size + 1 by simp] at l2
        have C2 := putN2h (w.heap.size + 1) _ (P0 ++ setB (S.take j)) x0 x1 (wr.heap.size + 1) _ (H.out.2.2.1 _ bal) hoo (Nat.le_trans hsz al.size) (fun u hu => H.out.2.2.1 _ (bal.trans hu)) (by rw [List.length_append]; have := HE.out.2.2.2.2.1; omega) hv.1.1 hv.1.2 hv.2.1 hv.2.2 (by simp) (fun e => by have := (ow.lt _ e).2; omega) l2.1 l2.2
        have HX : Hid _ := And.intro C2 (And.intro hsu (And.intro hoo (And.intro bal (Nat.le_trans hsz al.size))))
        clear C2 hsu hoo bal al ow bw hv hle cc ex0 ex1 l2 hsz
        go_wp2_with fail
        go_at_call 23
        refine HX.out.1.mono ?_
        rintro e w3 ⟨r3, rfl, o3, g3⟩
        have H3 : Hid _ := And.intro o3 (HX.out.2.2.2.1.trans (g3.below HX.out.2.2.1 HX.out.2.2.2.2))
        clear o3 g3
        go_wp2_with fail
        go_roundg (m - (j + 1))
        case measure => omega
        case rel => exact ⟨j + 1, by omega, rfl, by go_num, by rw [HX.out.2.1, ← List.append_assoc, ← List.append_assoc]; exact H3.out.1, H3.out.2⟩
      · obtain rfl : j = m := by omega
        have hsz : w.heap.size + 1 ≤ wr.heap.size := by have := bw.size; simpa using this
        have OW : Hid _ := And.intro ow (And.intro bw hsz)
        clear ow bw hsz
        go_wp2_with (at_builtin; refine wpList_append_row rfl _ _ rfl (w.heap.size + 1) _ _ (P0 ++ setB (S.take j)) rfl OW.out.1 (.slice bo n cd) D rfl (H.out.2.2.2.1 _ OW.out.2.1) (by have := HE.out.2.2.2.2.2.2; have := HE.out.2.2.1 j (by rw [← HE.out.2.1]; omega); have := HE.out.2.2.2.2.1; rw [List.length_append]; omega) OW.out.2.2 ?_; intro v9 w9 o9 g9)
        have b9 := OW.out.2.1.grown g9 OW.out.2.2 (fun q e => (OW.out.1.lt q e).1)
        have H9 : Hid _ := And.intro o9 b9
        clear o9 g9 b9
        go_ret
        refine ⟨_, rfl, ?_, H.out.2.1 _ H9.out.2⟩
        have o3 := H9.out.1
        have e1 : S.take j = S := by rw [HE.out.2.1]; exact List.take_length
        rw [e1, ← HE.out.1, show (P0 ++ setB S).length + D.length = R.length by rw [HE.out.1]; simp only [List.length_append]] at o3
        exact owns_mono (base' := w.heap.size) o3 (by omega)
end Go.Proofs.YtmfbfophjnaapaaDoor
