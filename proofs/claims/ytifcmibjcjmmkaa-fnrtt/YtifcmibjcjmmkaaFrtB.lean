import Derived.Test.YtifcmibjcjmmkaaFrtA
import Derived.Test.YtifcmibjcjmmkaaAt
import Derived.Deep.RegionHeld3
namespace Go.Proofs.Ytifcmibjcjmmkaa
open Go.RowKit
set_option linter.unusedVariables false
set_option linter.unusedSimpArgs false

theorem neR (a b c d : Int) (w : World) : (binOp .neq 31 (rv a b c d) (rv a b c d)).run Try.prog w = .ok (.bool false) w := by
  have h := eqR a b c d a b c d w
  rw [run_eql_struct] at h
  rw [run_neq_struct]
  cases hq : (Op.equalIn 10000 31 (rv a b c d) (rv a b c d)).run Try.prog w with
  | ok x w' =>
    rw [hq] at h
    simp at h
    simp [h.1, h.2]
  | halt x w' =>
    rw [hq] at h
    simp [Result.andThen] at h
theorem egN (p q : Operand) (xs ys : Array Value) (w : World) : (eqGuard .neq 31 p q (.agg xs) (.agg ys)).run Try.prog w = .ok () w :=
  run_eqGuard_agg w .neq _ p q xs ys (by kernel_rfl)
/-- The block of the round trips lies at g. -/
def At4 (w : World) (g : Nat) (a b c d : Int) : Prop := w.heap[g]? = some (bI a b c d)
theorem At4.lt {w : World} {g : Nat} {a b c d : Int} (h : At4 w g a b c d) : g < w.heap.size := (Array.getElem?_eq_some_iff.1 h).1
theorem At4.c0 {w : World} {g : Nat} {a b c d : Int} (h : At4 w g a b c d) : w.cell? ⟨g, 0, none⟩ = some (.int .i64 a) := by rw [bk_cell h]; rfl
theorem At4.c1 {w : World} {g : Nat} {a b c d : Int} (h : At4 w g a b c d) : w.cell? ⟨g, 1, none⟩ = some (.int .i64 b) := by rw [bk_cell h]; rfl
theorem At4.c2 {w : World} {g : Nat} {a b c d : Int} (h : At4 w g a b c d) : w.cell? ⟨g, 2, none⟩ = some (.int .i64 c) := by rw [bk_cell h]; rfl
theorem At4.c3 {w : World} {g : Nat} {a b c d : Int} (h : At4 w g a b c d) : w.cell? ⟨g, 3, none⟩ = some (.int .i64 d) := by rw [bk_cell h]; rfl
theorem At4.below {w w' : World} {g : Nat} {a b c d : Int} (h : At4 w g a b c d) (hb : Below w.heap.size w w') : At4 w' g a b c d := (hb.block g h.lt).trans h
theorem At4.drew {w : World} {g : Nat} {a b c d : Int} (h : At4 w g a b c d) (n : Nat) : At4 (w.drewN n) g a b c d := h

theorem At4.f {w : World} {g : Nat} {a b c d : Int} (h : At4 w g a b c d) (i : Nat) : w.frozen? ⟨g, i, none⟩ = false := bk_free h i
theorem At4.all {w : World} {g : Nat} {a b c d : Int} (h : At4 w g a b c d) : w.cell? ⟨g, 0, none⟩ = some (.int .i64 a) ∧ w.cell? ⟨g, 1, none⟩ = some (.int .i64 b) ∧ w.cell? ⟨g, 2, none⟩ = some (.int .i64 c) ∧ w.cell? ⟨g, 3, none⟩ = some (.int .i64 d) ∧ g < w.heap.size := ⟨h.c0, h.c1, h.c2, h.c3, h.lt⟩
theorem At4.free {w : World} {g : Nat} {a b c d : Int} (h : At4 w g a b c d) : w.frozen? ⟨g, 0, none⟩ = false ∧ w.frozen? ⟨g, 1, none⟩ = false ∧ w.frozen? ⟨g, 2, none⟩ = false ∧ w.frozen? ⟨g, 3, none⟩ = false := ⟨h.f 0, h.f 1, h.f 2, h.f 3⟩
theorem At4.new (w : World) (a b c d : Int) : At4 (w.alloc (bI a b c d)) w.heap.size a b c d := (MapKept.heap_alloc w _).1
theorem At4.alloc {w : World} {g : Nat} {a b c d : Int} (h : At4 w g a b c d) (o : Obj) : At4 (w.alloc o) g a b c d := h.below ((Below.refl _ _).alloc (Nat.le_refl _) o)
theorem At4.put {w : World} {g : Nat} {a b c d : Int} (h : At4 w g a b c d) (x0 x1 x2 x3 : Int) : At4 ((((w.setCell ⟨g, 0, none⟩ (.int .i64 x0)).setCell ⟨g, 1, none⟩ (.int .i64 x1)).setCell ⟨g, 2, none⟩ (.int .i64 x2)).setCell ⟨g, 3, none⟩ (.int .i64 x3)) g x0 x1 x2 x3 :=
  bk_set (bk_set (bk_set (bk_set h 0 _) 1 _) 2 _) 3 _
theorem At4.other {w : World} {g k : Nat} {a b c d : Int} (h : At4 w g a b c d) (hk : g ≠ k) (x0 x1 x2 x3 : Int) : At4 ((((w.setCell ⟨k, 0, none⟩ (.int .i64 x0)).setCell ⟨k, 1, none⟩ (.int .i64 x1)).setCell ⟨k, 2, none⟩ (.int .i64 x2)).setCell ⟨k, 3, none⟩ (.int .i64 x3)) g a b c d :=
  (bk_other hk 3 _).trans ((bk_other hk 2 _).trans ((bk_other hk 1 _).trans ((bk_other hk 0 _).trans h)))
theorem Below.put4 {w0 w : World} {n k : Nat} (h : Below n w0 w) (hk : n ≤ k) (x0 x1 x2 x3 : Int) : Below n w0 ((((w.setCell ⟨k, 0, none⟩ (.int .i64 x0)).setCell ⟨k, 1, none⟩ (.int .i64 x1)).setCell ⟨k, 2, none⟩ (.int .i64 x2)).setCell ⟨k, 3, none⟩ (.int .i64 x3)) :=
  (((h.setCell hk _).setCell hk _).setCell hk _).setCell hk _
theorem At4.drawn {w wx wy : World} {g : Nat} {a b c d : Int} (hm : ∃ m, wy = wx.drewN m) (h : At4 wx g a b c d ∧ Below w.heap.size w wx) : At4 wy g a b c d ∧ Below w.heap.size w wy := by
  obtain ⟨m, rfl⟩ := hm
  exact ⟨h.1.drew m, below_drewN h.2 m⟩
theorem At4.drawn1 {wx wy : World} {g : Nat} {a b c d : Int} (hm : ∃ m, wy = wx.drewN m) (h : At4 wx g a b c d) : At4 wy g a b c d := by
  obtain ⟨m, rfl⟩ := hm
  exact h.drew m
/-- Behind a call that began in a world with the block. -/
theorem At4.went {w wx wy : World} {g : Nat} {a b c d : Int} (h : At4 wx g a b c d ∧ Below w.heap.size w wx) (hb : Below wx.heap.size wx wy) : At4 wy g a b c d ∧ Below w.heap.size w wy := ⟨h.1.below hb, h.2.trans (hb.mono h.2.size)⟩

set_option maxRecDepth 20000 in
set_option maxHeartbeats 8000000 in
theorem fnRtt_walk (v : Value) (xs : List Int) (len : xs.length ≤ maxLen) (wf : ∀ x ∈ xs, (Lit.int .u8 x).wf = true) (w : World) (row : Row w .u8 v xs) :
    Calls Try.prog 4 #[v] w fun e w' => e = .returned (.bool true) ∧ Below w.heap.size w w' := by
  have hB := bytes_of_wf wf
  obtain ⟨ao, cp, rfl⟩ := row.form
  have hlen : xs.length ≤ 9223372036854775807 := Nat.le_trans len (by decide)
  have AT : ∀ (i : Nat) (n : Int) (wx : World), i ≤ 2147483648 → 2 ≤ n → n ≤ 2147483648 → Below w.heap.size w wx → Calls Try.prog 8 #[.slice ao xs.length cp, .int .i64 (i : Int), .int .i64 n] wx fun e w' => e = .returned (.int .i64 (atV xs i n)) ∧ ∃ m, w' = wx.drewN m :=
    fun i n wx hi h2 hn hb => atC _ xs i n wx (row.below hb) hB (by omega) hi h2 hn
  have HH : Hid _ := And.intro AT True.intro
  obtain ⟨m, em⟩ : ∃ m, m = xs.length := ⟨_, rfl⟩
  have EM : Hid _ := em
  rw [← em] at hlen ⊢
  rw [← em] at HH
  clear row hB wf len AT em
  by_cases hbig : 1048576 < m
  · go_enter Try.func4, Try.ntmps4
    go_wp2
    go_ret
    exact ⟨rfl, Below.refl _ _⟩
  go_enter Try.func4, Try.ntmps4
  go_wp2_with fail
  go_loopg [4, 5, 6] 40 (fun q lv gv iv wr => ∃ (i : Nat) (a b c d l g : Int), i ≤ 40 ∧ q = 40 - i ∧ lv = .int .i64 l ∧ gv = .int .i64 g ∧ iv = .int .i64 (i : Int) ∧ At4 wr w.heap.size a b c d ∧ Below w.heap.size w wr ∧ RI a b c d l g ∧ (0 < i → 1 ≤ l))
  case atStart =>
    refine ⟨0, 0, 0, 0, 0, 0, 0, by omega, by omega, rfl, rfl, rfl, ?_, (Below.refl _ _).alloc (Nat.le_refl _) _, Or.inl ⟨rfl, rfl, rfl, rfl, rfl, rfl⟩, by omega⟩
    exact (MapKept.heap_alloc w _).1
  case round =>
    obtain ⟨i, a, b, c, d, l, g, hi, hq, rfl, rfl, rfl, h4, hb, hri, hl⟩ := hrel
    by_cases hgo : i < 40 ∧ i < m + 2
    · obtain ⟨s0, es0⟩ : ∃ s0, s0 = atV xs i 90000 := ⟨_, rfl⟩
      obtain ⟨y0, ey0⟩ : ∃ y0, y0 = atV xs (i + 3) 5000 := ⟨_, rfl⟩
      have hs0 := atV_bd xs i 90000 (by omega)
      have hy0 := atV_bd xs (i + 3) 5000 (by omega)
      rw [← es0] at hs0
      rw [← ey0] at hy0
      have A1 := HH.out.1 i 90000 wr (by omega) (by omega) (by omega) hb
      rw [← es0] at A1
      have A2 : ∀ wx, Below w.heap.size w wx → Calls Try.prog 8 #[.slice ao m cp, .int .i64 (IntKind.i64.wrap ((i : Int) + 3)), .int .i64 5000] wx fun e w' => e = .returned (.int .i64 y0) ∧ ∃ m, w' = wx.drewN m := fun wx hw => by
        have t := HH.out.1 (i + 3) 5000 wx (by omega) (by omega) (by omega) hw
        rw [← ey0, show ((i + 3 : Nat) : Int) = IntKind.i64.wrap ((i : Int) + 3) by rw [IntKind.wrap_i64]; omega] at t
        exact t
      have q0 := h4.c0
      have q1 := h4.c1
      have q2 := h4.c2
      have q3 := h4.c3
      have qlt := h4.lt
      obtain ⟨x2, x3, C1, C2, hri', hl'⟩ := step_draw a b c d l g (1 + s0) y0 hri (by omega) (by omega)
      obtain ⟨ln, eln⟩ : ∃ ln, ln = lNext l (1 + s0) := ⟨_, rfl⟩
      rw [← eln] at C1 C2 hri' hl'
      have HA : Hid _ := And.intro A1 (And.intro A2 (And.intro C1 (And.intro C2 (And.intro h4 hb))))
      have HR : Hid _ := And.intro hri (And.intro hl (And.intro hri' (And.intro hl' eln)))
      clear A1 A2 C1 C2 h4 hb hri hl hri' hl' es0 ey0 eln
      go_upto_region 10 with (go_at_call 8; refine HA.out.1.mono ?_; rintro e w1 ⟨rfl, hx1⟩; have H1 : Hid _ := At4.drawn hx1 HA.out.2.2.2.2; clear hx1)
      have H1d : Hid _ := (show At4 w1.drew w.heap.size a b c d ∧ Below w.heap.size w w1.drew from ⟨H1.out.1.drew 1, below_drewN H1.out.2 1⟩)
      have H1a : Hid _ := (show At4 (w1.alloc (bI 0 0 0 0)).drew w.heap.size a b c d ∧ Below w.heap.size w (w1.alloc (bI 0 0 0 0)).drew from ⟨(H1.out.1.alloc _).drew 1, below_drewN (H1.out.2.alloc (Nat.le_of_lt H1.out.1.lt) _) 1⟩)
      obtain ⟨g0, g1, g2, g3, glt⟩ := H1.out.1.all
      have gn0 := World.new_ne w1 _ g0
      have gn1 := World.new_ne w1 _ g1
      have gn2 := World.new_ne w1 _ g2
      have gn3 := World.new_ne w1 _ g3
      obtain ⟨p0, p1, p2, p3, plt⟩ := H1d.out.1.all
      have pne : ¬ (w.heap.size = w1.heap.size) := Nat.ne_of_lt H1.out.1.lt
      have pne' : ¬ (w1.heap.size = w.heap.size) := fun q => pne q.symm
      clear q0 q1 q2 q3
      go_cut [8] from 16 to 86 (fun pv wx => ∃ b8 : Nat, pv = .pointer (some ⟨b8, 0, none⟩) ∧ w.heap.size < b8 ∧ At4 wx b8 (1 + s0) ln x2 x3 ∧ At4 wx w.heap.size a b c d ∧ Below w.heap.size w wx)
      case first =>
        go_region_held3 (fun w' => w'.cell? ⟨w.heap.size, 0, none⟩ = some (.int .i64 a) ∧ w'.cell? ⟨w.heap.size, 1, none⟩ = some (.int .i64 b) ∧ w'.cell? ⟨w.heap.size, 2, none⟩ = some (.int .i64 c) ∧ w'.cell? ⟨w.heap.size, 3, none⟩ = some (.int .i64 d)) (go_keep)
          (first
          | (go_at_call 8; refine (HA.out.2.1 w1.drew H1d.out.2).mono ?_; rintro e w2 ⟨rfl, hx2⟩; have H2 : Hid (At4 w2 w.heap.size a b c d ∧ Below w.heap.size w w2) := At4.drawn hx2 H1d.out; obtain ⟨r0, r1, r2, r3, rlt⟩ := H2.out.1.all; have rne : ¬ (w.heap.size = w2.heap.size) := Nat.ne_of_lt rlt; have rne' : ¬ (w2.heap.size = w.heap.size) := fun q => rne q.symm; clear hx2)
          | (go_at_call 8; refine (HA.out.2.1 (w1.alloc (bI 0 0 0 0)).drew H1a.out.2).mono ?_; rintro e w2 ⟨rfl, hx2⟩; have H2 : Hid (At4 w2 w.heap.size a b c d ∧ Below w.heap.size w w2) := At4.drawn hx2 H1a.out; have K2 : Hid (At4 w2 w1.heap.size 0 0 0 0) := At4.drawn1 hx2 ((At4.new w1 0 0 0 0).drew 1); obtain ⟨r0, r1, r2, r3, rlt⟩ := H2.out.1.all; have rne : ¬ (w.heap.size = w2.heap.size) := Nat.ne_of_lt rlt; have rne' : ¬ (w2.heap.size = w.heap.size) := fun q => rne q.symm; clear hx2)
          | (go_at_call 9; have K2x : Hid (At4 w2 w1.heap.size 0 0 0 0) := K2; refine (HA.out.2.2.1 w2).mono ?_; rintro e w3 ⟨rfl, b3⟩; have H3 : Hid (At4 w3 w.heap.size a b c d ∧ Below w.heap.size w w3) := At4.went H2.out b3; have K3 : Hid (At4 w3 w1.heap.size 0 0 0 0) := At4.below K2.out b3; obtain ⟨t0, t1, t2, t3, tlt⟩ := H3.out.1.all; have tne : ¬ (w.heap.size = w3.heap.size) := Nat.ne_of_lt tlt; have tne' : ¬ (w3.heap.size = w.heap.size) := fun q => tne q.symm; obtain ⟨o0, o1, o2, o3, olt⟩ := K3.out.all; obtain ⟨f0, f1, f2, f3⟩ := K3.out.free; clear b3)
          | (go_at_call 9; refine (HA.out.2.2.1 w2).mono ?_; rintro e w3 ⟨rfl, b3⟩; have H3 : Hid (At4 w3 w.heap.size a b c d ∧ Below w.heap.size w w3) := At4.went H2.out b3; obtain ⟨t0, t1, t2, t3, tlt⟩ := H3.out.1.all; have tne : ¬ (w.heap.size = w3.heap.size) := Nat.ne_of_lt tlt; have tne' : ¬ (w3.heap.size = w.heap.size) := fun q => tne q.symm; clear b3)
          | (go_at_call 9; refine (HA.out.2.2.1 (w2.alloc (bI 0 0 0 0))).mono ?_; rintro e w3 ⟨rfl, b3⟩; have H3 : Hid (At4 w3 w.heap.size a b c d ∧ Below w.heap.size w w3) := At4.went (show At4 (w2.alloc (bI 0 0 0 0)) w.heap.size a b c d ∧ Below w.heap.size w (w2.alloc (bI 0 0 0 0)) from ⟨H2.out.1.alloc _, H2.out.2.alloc (Nat.le_of_lt H2.out.1.lt) _⟩) b3; have K3 : Hid (At4 w3 w2.heap.size 0 0 0 0) := At4.below (At4.new w2 0 0 0 0) b3; obtain ⟨t0, t1, t2, t3, tlt⟩ := H3.out.1.all; have tne : ¬ (w.heap.size = w3.heap.size) := Nat.ne_of_lt tlt; have tne' : ¬ (w3.heap.size = w.heap.size) := fun q => tne q.symm; obtain ⟨o0, o1, o2, o3, olt⟩ := K3.out.all; obtain ⟨f0, f1, f2, f3⟩ := K3.out.free; clear b3))
        all_goals
          go_wp2_with fail
          go_meet
          first
            | (have hk := K2x; exact ⟨w1.heap.size, rfl, H1.out.1.lt, At4.put K3.out _ _ _ _, At4.other H3.out.1 pne _ _ _ _, Below.put4 H3.out.2 (Nat.le_of_lt H1.out.1.lt) _ _ _ _⟩)
            | (have hk := K3; exact ⟨w2.heap.size, rfl, H2.out.1.lt, At4.put K3.out _ _ _ _, At4.other H3.out.1 rne _ _ _ _, Below.put4 H3.out.2 (Nat.le_of_lt H2.out.1.lt) _ _ _ _⟩)
            | exact ⟨w3.heap.size, rfl, H3.out.1.lt, At4.new w3 _ _ _ _, H3.out.1.alloc _, H3.out.2.alloc (Nat.le_of_lt H3.out.1.lt) _⟩
      case rest =>
      clear H1 H1d H1a g0 g1 g2 g3 glt gn0 gn1 gn2 gn3 p0 p1 p2 p3 plt pne pne' qlt
      rename World => w4
      obtain ⟨b8, rfl, hb8, k8, k9, hb4⟩ := hcut
      have H4 : Hid (At4 w4 w.heap.size a b c d ∧ Below w.heap.size w w4) := ⟨k9, hb4⟩
      have H4d : Hid (At4 w4.drew w.heap.size a b c d ∧ Below w.heap.size w w4.drew) := ⟨k9.drew 1, below_drewN hb4 1⟩
      have K4 : Hid (At4 w4 b8 (1 + s0) ln x2 x3) := k8
      obtain ⟨g0, g1, g2, g3, glt⟩ := H4.out.1.all
      clear k8 k9 hb4
      go_upto_region 11 with fail
      go_cut [] from 16 to 86 (fun wx => At4 wx w.heap.size (1 + s0) ln x2 x3 ∧ At4 wx b8 (1 + s0) ln x2 x3 ∧ Below w.heap.size w wx)
      case first =>
        go_region_with (first
          | (go_at_call 8; refine (HA.out.2.1 w4.drew H4d.out.2).mono ?_; rintro e w5 ⟨rfl, hx5⟩; have H5 : Hid (At4 w5 w.heap.size a b c d ∧ Below w.heap.size w w5) := At4.drawn hx5 H4d.out; have K5 : Hid (At4 w5 b8 (1 + s0) ln x2 x3) := At4.drawn1 hx5 (K4.out.drew 1); obtain ⟨r0, r1, r2, r3, rlt⟩ := H5.out.1.all; clear hx5)
          | (go_at_call 10; refine (HA.out.2.2.2.1 w5).mono ?_; rintro e w6 ⟨rfl, b6⟩; have H6 : Hid (At4 w6 w.heap.size a b c d ∧ Below w.heap.size w w6) := At4.went H5.out b6; have K6 : Hid (At4 w6 b8 (1 + s0) ln x2 x3) := At4.below K5.out b6; obtain ⟨t0, t1, t2, t3, tlt⟩ := H6.out.1.all; obtain ⟨f0, f1, f2, f3⟩ := H6.out.1.free; clear b6))
        all_goals
          go_wp2_with fail
          go_meet
          exact ⟨At4.put H6.out.1 _ _ _ _, At4.other K6.out (Nat.ne_of_gt hb8) _ _ _ _, Below.put4 H6.out.2 (Nat.le_refl _) _ _ _ _⟩
      case rest =>
      clear H4 H4d K4 g0 g1 g2 g3 glt
      rename World => w7
      obtain ⟨k9, k8, hb7⟩ := hcut
      have H7 : Hid _ := And.intro k9 (And.intro k8 hb7)
      obtain ⟨g0, g1, g2, g3, glt⟩ := k9.all
      obtain ⟨z0, z1, z2, z3, zlt⟩ := k8.all
      have NE := neR (1 + s0) ln x2 x3
      have EN := egN
      have hF : 1 ≤ ln ∧ ln - 7 ≤ x2 ∧ 1 ≤ x2 ∧ x2 ≤ max g (1 + s0) ∧ ln ≤ 90000 := by
        rcases HR.out.2.2.1 with q | q
        · exact absurd q.2.2.2.2.1 (by have := HR.out.2.2.2.1; omega)
        · exact ⟨q.1, q.2.2.2.2.2.2.1, q.2.2.2.2.2.2.2.1, q.2.2.2.2.2.2.2.2.1, by have := q.2.1; have := q.2.2.1; omega⟩
      obtain ⟨hF1, hF2, hF3, hF4, hF5⟩ := hF
      clear k9 k8 hb7
      by_cases hl0 : l = 0
      · have e : ln = 1 + s0 := by rw [HR.out.2.2.2.2]; unfold lNext; rw [if_pos (Or.inl hl0)]
        have HE : Hid _ := And.intro hl0 e
        have hlb : (l == 0) = true := by simp [hl0]
        have e1 : (ln != 1 + s0) = false := by simp [e]
        have e2 : ¬ x2 < 1 + s0 - 8 := by omega
        clear hl0 e
        go_wp2_with fail
        go_roundg (40 - (i + 1))
        case measure => omega
        case rel => exact ⟨i + 1, 1 + s0, ln, x2, x3, ln, max g (1 + s0), by omega, rfl, by rw [HE.out.2], rfl, by go_num, H7.out.1, H7.out.2.2, HR.out.2.2.1, fun _ => hF1⟩
      · have hlb : (l == 0) = false := by simp [hl0]
        by_cases hls : 1 + s0 < l
        · have e : ln = 1 + s0 := by rw [HR.out.2.2.2.2]; unfold lNext; rw [if_pos (Or.inr hls)]
          have HE : Hid _ := And.intro hl0 e
          have e1 : (ln != 1 + s0) = false := by simp [e]
          have e2 : ¬ x2 < 1 + s0 - 8 := by omega
          clear hl0 e
          go_wp2_with fail
          go_roundg (40 - (i + 1))
          case measure => omega
          case rel => exact ⟨i + 1, 1 + s0, ln, x2, x3, ln, max g (1 + s0), by omega, rfl, by rw [HE.out.2], rfl, by go_num, H7.out.1, H7.out.2.2, HR.out.2.2.1, fun _ => hF1⟩
        · have e : ln = l := by rw [HR.out.2.2.2.2]; unfold lNext; rw [if_neg (by rintro (q | q) <;> omega)]
          have HE : Hid _ := And.intro hl0 e
          have e1 : (ln != l) = false := by simp [e]
          have e2 : ¬ x2 < l - 8 := by omega
          have hlr : 1 ≤ l ∧ l ≤ 90000 := by omega
          clear hl0 e
          go_wp2_with fail
          go_roundg (40 - (i + 1))
          case measure => omega
          case rel => exact ⟨i + 1, 1 + s0, ln, x2, x3, ln, max g (1 + s0), by omega, rfl, by rw [HE.out.2], rfl, by go_num, H7.out.1, H7.out.2.2, HR.out.2.2.1, fun _ => hF1⟩
    · have hi0 : 0 < i := by omega
      obtain ⟨q, hq1, hq2, hp0, hp1, hp50, hld1, hld2, ha1, ha2, hc1, hc2⟩ := last_pd a b c d l g hri (hl hi0)
      have P0 := probeI a b c d 100 0 (by decide)
      have P1 := probeI a b c d 100 1 (by decide)
      have P2 := probeI a b c d 100 50 (by decide)
      have LD := lossI a b c d
      rw [hp0] at P0
      rw [hp1] at P1
      rw [hp50] at P2
      generalize ldV a b c d = ld at LD hld1 hld2
      obtain ⟨tw, etw⟩ : ∃ tw, tw = 2 * q := ⟨_, rfl⟩
      rw [← etw] at P1
      have hT : min (IntKind.i64.wrap (2 * q)) 1000000000000 = tw := by rw [IntKind.wrap_i64]; omega
      have hT2 : (tw == tw) = true := by simp
      have hA : IntKind.i64.wrap ((IntKind.i64.wrap (a * 9)).tdiv 8) = a * 9 / 8 := by
        rw [show IntKind.i64.wrap (a * 9) = a * 9 by rw [IntKind.wrap_i64]; omega, Int.tdiv_eq_ediv_of_nonneg (by omega), IntKind.wrap_i64]; omega
      have q0 := h4.c0
      have q1 := h4.c1
      have q2 := h4.c2
      have q3 := h4.c3
      have HA : Hid _ := And.intro P0 (And.intro P1 (And.intro P2 (And.intro LD (And.intro h4 hb))))
      clear P0 P1 P2 LD h4 hb hri hl hp0 hp1 hp50 etw
      by_cases hi40 : i < 40
      · have him : ¬ i < m + 2 := fun h => hgo ⟨hi40, h⟩
        go_wp2_with fail
        go_at_call 11
        refine (HA.out.1 wr).mono ?_
        rintro e w2 ⟨rfl, b2⟩
        have H2 : Hid (At4 w2 w.heap.size a b c d ∧ Below w.heap.size w w2) := At4.went HA.out.2.2.2.2 b2
        obtain ⟨g0, g1, g2, g3, glt⟩ := H2.out.1.all
        clear b2 q0 q1 q2 q3
        go_wp2_with fail
        go_at_call 11
        refine (HA.out.2.1 w2).mono ?_
        rintro e w3 ⟨rfl, b3⟩
        have H3 : Hid (At4 w3 w.heap.size a b c d ∧ Below w.heap.size w w3) := At4.went H2.out b3
        clear b3 g0 g1 g2 g3 glt
        obtain ⟨g0, g1, g2, g3, glt⟩ := H3.out.1.all
        go_wp2_with fail
        go_at_call 11
        refine (HA.out.2.2.1 w3).mono ?_
        rintro e w4 ⟨rfl, b4⟩
        have H4 : Hid (At4 w4 w.heap.size a b c d ∧ Below w.heap.size w w4) := At4.went H3.out b4
        have H4d : Hid (At4 w4.drew w.heap.size a b c d ∧ Below w.heap.size w w4.drew) := ⟨H4.out.1.drew 1, below_drewN H4.out.2 1⟩
        clear b4 g0 g1 g2 g3 glt
        obtain ⟨g0, g1, g2, g3, glt⟩ := H4.out.1.all
        obtain ⟨y0, y1, y2, y3, ylt⟩ := H4d.out.1.all
        go_wp2_with fail
        go_region_held3 (fun w' => w'.cell? ⟨w.heap.size, 0, none⟩ = some (.int .i64 a) ∧ w'.cell? ⟨w.heap.size, 1, none⟩ = some (.int .i64 b) ∧ w'.cell? ⟨w.heap.size, 2, none⟩ = some (.int .i64 c) ∧ w'.cell? ⟨w.heap.size, 3, none⟩ = some (.int .i64 d)) (go_keep)
          (first
          | (go_at_call 12; (fail_if_success (have hyy := H5)); refine (HA.out.2.2.2.1 w4.drew).mono ?_; rintro e w5 ⟨rfl, b5⟩; have H5 : Hid (At4 w5 w.heap.size a b c d ∧ Below w.heap.size w w5) := At4.went H4d.out b5; obtain ⟨r0, r1, r2, r3, rlt⟩ := H5.out.1.all; clear b5)
          | (go_at_call 12; refine (HA.out.2.2.2.1 w5).mono ?_; rintro e w6 ⟨rfl, b6⟩; have H6 : Hid (At4 w6 w.heap.size a b c d ∧ Below w.heap.size w w6) := At4.went H5.out b6; obtain ⟨t0, t1, t2, t3, tlt⟩ := H6.out.1.all; clear b6))
        all_goals
          go_wp2_with fail
          go_ret
          exact ⟨rfl, H6.out.2⟩
      · obtain rfl : i = 40 := by omega
        go_wp2_with fail
        go_at_call 11
        refine (HA.out.1 wr).mono ?_
        rintro e w2 ⟨rfl, b2⟩
        have H2 : Hid (At4 w2 w.heap.size a b c d ∧ Below w.heap.size w w2) := At4.went HA.out.2.2.2.2 b2
        obtain ⟨g0, g1, g2, g3, glt⟩ := H2.out.1.all
        clear b2 q0 q1 q2 q3
        go_wp2_with fail
        go_at_call 11
        refine (HA.out.2.1 w2).mono ?_
        rintro e w3 ⟨rfl, b3⟩
        have H3 : Hid (At4 w3 w.heap.size a b c d ∧ Below w.heap.size w w3) := At4.went H2.out b3
        clear b3 g0 g1 g2 g3 glt
        obtain ⟨g0, g1, g2, g3, glt⟩ := H3.out.1.all
        go_wp2_with fail
        go_at_call 11
        refine (HA.out.2.2.1 w3).mono ?_
        rintro e w4 ⟨rfl, b4⟩
        have H4 : Hid (At4 w4 w.heap.size a b c d ∧ Below w.heap.size w w4) := At4.went H3.out b4
        have H4d : Hid (At4 w4.drew w.heap.size a b c d ∧ Below w.heap.size w w4.drew) := ⟨H4.out.1.drew 1, below_drewN H4.out.2 1⟩
        clear b4 g0 g1 g2 g3 glt
        obtain ⟨g0, g1, g2, g3, glt⟩ := H4.out.1.all
        obtain ⟨y0, y1, y2, y3, ylt⟩ := H4d.out.1.all
        go_wp2_with fail
        go_region_held3 (fun w' => w'.cell? ⟨w.heap.size, 0, none⟩ = some (.int .i64 a) ∧ w'.cell? ⟨w.heap.size, 1, none⟩ = some (.int .i64 b) ∧ w'.cell? ⟨w.heap.size, 2, none⟩ = some (.int .i64 c) ∧ w'.cell? ⟨w.heap.size, 3, none⟩ = some (.int .i64 d)) (go_keep)
          (first
          | (go_at_call 12; (fail_if_success (have hyy := H5)); refine (HA.out.2.2.2.1 w4.drew).mono ?_; rintro e w5 ⟨rfl, b5⟩; have H5 : Hid (At4 w5 w.heap.size a b c d ∧ Below w.heap.size w w5) := At4.went H4d.out b5; obtain ⟨r0, r1, r2, r3, rlt⟩ := H5.out.1.all; clear b5)
          | (go_at_call 12; refine (HA.out.2.2.2.1 w5).mono ?_; rintro e w6 ⟨rfl, b6⟩; have H6 : Hid (At4 w6 w.heap.size a b c d ∧ Below w.heap.size w w6) := At4.went H5.out b6; obtain ⟨t0, t1, t2, t3, tlt⟩ := H6.out.1.all; clear b6))
        all_goals
          go_wp2_with fail
          go_ret
          exact ⟨rfl, H6.out.2⟩
end Go.Proofs.Ytifcmibjcjmmkaa
