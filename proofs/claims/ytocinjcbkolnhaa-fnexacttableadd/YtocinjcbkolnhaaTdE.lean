import Derived.Test.YtocinjcbkolnhaaTdD
namespace Go.Proofs.Ytocinjcbkolnhaa
open Go.RowKit
set_option linter.unusedVariables false

set_option maxRecDepth 20000 in
set_option maxHeartbeats 2000000 in
theorem taI (t : TB) (s : Value) (a c : ByteArray) (w : World) (hr : GRow 2 w s (SField.L t.es)) (hn : t.es.length ≤ 1048576) (ht : txs t.es + a.size + c.size ≤ 1048576) :
    Calls Try.prog 9 #[tV t s, .agg #[.string a, .string c]] w fun e w' => ∃ r, e = .returned (.tuple #[tV (taR t a c).1 r, .int .i64 (taR t a c).2]) ∧ GOwns 35 2 w' w.heap.size r (SField.L (taR t a c).1.es) ∧ Below w.heap.size w w' := by
  have hmf : ∀ (fn : Fn) (first cap : Array Value) (w : World), (Instr.makeFunc fn first cap).run Try.prog w = .ok (.func fn first cap) w := fun _ _ _ _ => rfl
  obtain ⟨k0, k1, k2⟩ := bk_new3 w (.cells #[.int .i64 t.mo, .int .i64 t.ca, .int .i64 t.ad, s] 31) (.cells #[.string a, .string c] 35) (.cells #[.int .i64 0, .int .i64 0, .int .i64 0, .slice none 0 0] 31)
  have B0 : Below w.heap.size w (((w.alloc (.cells #[.int .i64 t.mo, .int .i64 t.ca, .int .i64 t.ad, s] 31)).alloc (.cells #[.string a, .string c] 35)).alloc (.cells #[.int .i64 0, .int .i64 0, .int .i64 0, .slice none 0 0] 31)) := (((Below.refl _ _).alloc (Nat.le_refl _) _).alloc (by simp) _).alloc (by simp <;> omega) _
  have zz : (((w.alloc (.cells #[.int .i64 t.mo, .int .i64 t.ca, .int .i64 t.ad, s] 31)).alloc (.cells #[.string a, .string c] 35)).alloc (.cells #[.int .i64 0, .int .i64 0, .int .i64 0, .slice none 0 0] 31)).heap.size = w.heap.size + 3 := by simp
  have CC := chA t s a c (w.heap.size + 1) _ (by rw [bk_cell k1]; rfl) (by rw [bk_cell k1]; rfl) (by rw [zz]; omega) (hr.below B0) hn ht
  obtain ⟨ao, cp, rfl⟩ := frow_form hr
  obtain ⟨X, eX⟩ : ∃ X, X = taR t a c := ⟨_, rfl⟩
  rw [← eX] at CC ⊢
  clear eX
  obtain ⟨⟨xm, xc, xa, xe⟩, code⟩ := X
  obtain ⟨n, en⟩ : ∃ n, n = t.es.length := ⟨_, rfl⟩
  rw [← en] at CC k0 k1 k2 B0 zz ⊢
  clear en hr hn ht
  obtain ⟨mo, ca, ad, es⟩ := t
  unfold tV at *
  simp only at *
  generalize eW : ((w.alloc (.cells #[.int .i64 mo, .int .i64 ca, .int .i64 ad, .slice ao n cp] 31)).alloc (.cells #[.string a, .string c] 35)).alloc (.cells #[.int .i64 0, .int .i64 0, .int .i64 0, .slice none 0 0] 31) = W at CC k0 k1 k2 B0 zz
  have q0 : W.cell? ⟨w.heap.size, 0, none⟩ = some (.int .i64 mo) := by rw [bk_cell k0]; rfl
  have q1 : W.cell? ⟨w.heap.size, 1, none⟩ = some (.int .i64 ca) := by rw [bk_cell k0]; rfl
  have q2 : W.cell? ⟨w.heap.size, 2, none⟩ = some (.int .i64 ad) := by rw [bk_cell k0]; rfl
  have q3 : W.cell? ⟨w.heap.size, 3, none⟩ = some (.slice ao n cp) := by rw [bk_cell k0]; rfl
  have H : Hid _ := And.intro CC (And.intro k2 (And.intro B0 zz))
  clear CC k0 k1 k2 B0 zz
  rw [← eW] at q0 q1 q2 q3
  have EW : Hid _ := And.intro eW True.intro
  clear eW
  go_enter Try.func9, Try.ntmps9
  go_wp2_with fail
  go_at_call 19
  rw [EW.out.1]
  refine H.out.1.mono ?_
  rintro e w1 ⟨r, rfl, o1, b1⟩
  obtain ⟨ra, rc, er, _⟩ := o1.formF
  obtain ⟨m, em⟩ : ∃ m, m = xe.length := ⟨_, rfl⟩
  rw [← em] at er
  subst er
  have kk : w1.heap[w.heap.size + 2]? = some (.cells #[.int .i64 0, .int .i64 0, .int .i64 0, .slice none 0 0] 31 (0, 0)) := (b1.block _ (by rw [H.out.2.2.2]; omega)).trans H.out.2.1
  have y0 : w1.cell? ⟨w.heap.size + 2, 0, none⟩ = some (.int .i64 0) := by rw [bk_cell kk]; rfl
  have y1 : w1.cell? ⟨w.heap.size + 2, 1, none⟩ = some (.int .i64 0) := by rw [bk_cell kk]; rfl
  have y2 : w1.cell? ⟨w.heap.size + 2, 2, none⟩ = some (.int .i64 0) := by rw [bk_cell kk]; rfl
  have y3 : w1.cell? ⟨w.heap.size + 2, 3, none⟩ = some (.slice none 0 0) := by rw [bk_cell kk]; rfl
  have f0 := bk_free kk 0
  have f1 := bk_free kk 1
  have f2 := bk_free kk 2
  have f3 := bk_free kk 3
  rw [H.out.2.2.2] at o1
  have bb := H.out.2.2.1.trans (b1.mono H.out.2.2.1.size)
  have H1 : Hid _ := And.intro kk (And.intro o1 bb)
  clear kk o1 bb b1 em q0 q1 q2 q3
  go_wp2
  try simp only [Exit.inBlock, Exit.then]
  refine bodyPost_ret (v := .tuple #[.agg #[.int .i64 xm, .int .i64 xc, .int .i64 xa, .slice ra m rc], .int .i64 code]) ?_ rfl ?_
  · exact results_rt (ty := 31) rfl _ _ (w.heap.size + 2) 31 _ (0, 0) _ _ rfl rfl ((bk_set (bk_set (bk_set (bk_set H1.out.1 0 _) 1 _) 2 _) 3 _).trans rfl) Try.underlying31 rfl infoTab
  · exact ⟨_, rfl, (gown_set (gown_set (gown_set (gown_set H1.out.2.1 (g := w.heap.size + 2) (by omega)) (g := w.heap.size + 2) (by omega)) (g := w.heap.size + 2) (by omega)) (g := w.heap.size + 2) (by omega)).mono (by omega), (((H1.out.2.2.setCell (by show w.heap.size ≤ w.heap.size + 2; omega) _).setCell (by show w.heap.size ≤ w.heap.size + 2; omega) _).setCell (by show w.heap.size ≤ w.heap.size + 2; omega) _).setCell (by show w.heap.size ≤ w.heap.size + 2; omega) _⟩
end Go.Proofs.Ytocinjcbkolnhaa
