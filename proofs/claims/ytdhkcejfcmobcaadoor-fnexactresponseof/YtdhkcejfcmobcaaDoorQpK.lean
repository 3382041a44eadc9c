import Derived.Test.YtdhkcejfcmobcaaDoorQpJ
import Derived.Test.YtdhkcejfcmobcaaDoorFdR
import Derived.Deep.RegionHeld3
import Derived.Deep.CutRange
namespace Go.Proofs.YtdhkcejfcmobcaaDoor
open Go.RowKit
set_option linter.unusedVariables false

abbrev stN : ByteArray := ⟨#[58, 115, 116, 97, 116, 117, 115]⟩
def rfR (st : Int) (L : List SField) : List SField × Int := if rsOK st L = true then ([⟨stN, thr st⟩] ++ L, 0) else ([], 1)
theorem own_lit1 (w : World) (x y : ByteArray) : GOwns 45 2 (w.alloc (.cells #[.string x, .string y] 45)) w.heap.size (.slice (some ⟨w.heap.size, 0, none⟩) 1 1) (SField.L [⟨x, y⟩]) :=
  GOwns.ofFQ (World.ownsRow_lit _ #[.string x, .string y] 1 (Nat.le_refl _) (by decide) rfl)
theorem own_nil1 (w : World) : GOwns 45 2 (w.alloc (.cells #[] 45)) w.heap.size (.slice (some ⟨w.heap.size, 0, none⟩) 0 0) (SField.L []) :=
  GOwns.ofFQ (World.ownsRow_lit _ #[] 0 (Nat.le_refl _) (by decide) rfl)
set_option maxRecDepth 20000 in
set_option maxHeartbeats 4000000 in
theorem rfS (st : Int) (v : Value) (L : List SField) (w : World) (h : GRow 2 w v (SField.L L)) (hR : L.length ≤ 1048576) (hf : fin L) :
    Calls Tryd.prog 6 #[.agg #[.int .i64 st, v]] w fun e w' => ∃ r, e = .returned (.tuple #[r, .int .i64 (rfR st L).2]) ∧ GOwns 45 2 w' w.heap.size r (SField.L (rfR st L).1) ∧ Below w.heap.size w w' := by
  have bA : ∀ u, Below (w.heap.size + 1) (w.alloc (.cells #[.int .i64 st, v] 30)) u → Below w.heap.size w u := fun u hu => ((Below.refl w.heap.size w).alloc (Nat.le_refl _) _).trans (hu.mono (by omega))
  have CK := rsS st v L _ (h.below (bA _ (Below.refl _ _))) hR hf
  have RW : ∀ u, Below (w.heap.size + 1) (w.alloc (.cells #[.int .i64 st, v] 30)) u → GRow 2 u v (SField.L L) := fun u hu => h.below (bA u hu)
  have hro := frow_form h
  cases hK : rsOK st L with
  | false =>
    rw [show rfR st L = ([], 1) by unfold rfR; rw [hK]; rfl]
    rw [hK] at CK
    obtain ⟨ao, cp, rfl⟩ := hro
    obtain ⟨n, en⟩ : ∃ n, n = L.length := ⟨_, rfl⟩
    rw [← en] at CK bA ⊢
    have H : Hid _ := And.intro CK bA
    clear CK bA RW h hR hf en hK
    go_enter Tryd.func6, Tryd.ntmps6
    go_wp2_with fail
    go_at_call 19
    refine H.out.1.mono ?_
    rintro e w1 ⟨rfl, b1⟩
    have B1 := H.out.2 w1 (by simpa using b1)
    have H1 : Hid _ := And.intro (B1.alloc B1.size (.cells #[] 45)) ((own_nil1 w1).mono (base' := w.heap.size) B1.size)
    clear b1 B1
    go_wp2
    (try simp only [Exit.inBlock, Exit.then])
    refine bodyPost_ret (results_tmp2 rfl _ _ _) rfl ?_
    exact ⟨_, rfl, H1.out.2, H1.out.1⟩
  | true =>
    rw [show rfR st L = ([⟨stN, thr st⟩] ++ L, 0) by unfold rfR; rw [hK]; rfl]
    rw [hK] at CK
    have hst : 100 ≤ st ∧ st ≤ 599 := by
      unfold rsOK at hK
      simp only [Bool.and_eq_true, decide_eq_true_eq] at hK
      exact hK.1
    have CT : ∀ u, _ := fun u => threeS st u hst.1 hst.2
    obtain ⟨X, eX⟩ : ∃ X, X = thr st := ⟨_, rfl⟩
    rw [← eX] at CT ⊢
    obtain ⟨ao, cp, rfl⟩ := hro
    have HN : Hid _ := And.intro hR True.intro
    obtain ⟨n, en⟩ : ∃ n, n = L.length := ⟨_, rfl⟩
    rw [← en] at CK bA RW ⊢
    have H : Hid _ := And.intro CK (And.intro bA (And.intro RW CT))
    clear CK bA RW CT h hR hf en hK hst eX
    go_enter Tryd.func6, Tryd.ntmps6
    go_wp2_with fail
    go_at_call 19
    refine H.out.1.mono ?_
    rintro e w1 ⟨rfl, b1⟩
    have A1 : Below (w.heap.size + 1) (w.alloc (.cells #[.int .i64 st, .slice ao n cp] 30)) w1 := by simpa using b1
    have hz : w.heap.size + 1 ≤ w1.heap.size := by have := A1.size; simpa using this
    have bd : Below w1.heap.size w1 w1.drew := below_drewN (Below.refl _ _) 1
    have A2 := A1.trans (bd.mono hz)
    obtain ⟨y0, y1⟩ := cel2 A2
    have H1 : Hid _ := And.intro A2 hz
    clear b1 A1 bd A2 hz
    go_wp2_with fail
    go_region_held3 (fun w' => w'.cell? ⟨w.heap.size, 0, none⟩ = some (.int .i64 st) ∧ w'.cell? ⟨w.heap.size, 1, none⟩ = some (.slice ao n cp)) (go_keep)
      (first
      | (go_at_call 20; refine (H.out.2.2.2 _).mono ?_; rintro e w3 ⟨rfl, b3⟩; have A3 := H1.out.1.trans (b3.mono H1.out.2); have al : Below w3.heap.size w3 (w3.alloc (.cells #[.string stN, .string X] 45)) := (Below.refl _ _).alloc (Nat.le_refl _) _; have hz3 : w.heap.size + 1 ≤ w3.heap.size := Nat.le_trans H1.out.2 b3.size; have A4 := A3.trans (al.mono hz3); obtain ⟨z0, z1⟩ := cel2 A3; obtain ⟨t0, t1⟩ := cel2 A4; have H3 : Hid _ := And.intro A4 hz3; clear b3 A3 A4 al hz3)
      | (refine step_append_fieldsQ rfl _ _ 26 Tryd.underlying26 rfl w3.heap.size _ [⟨stN, X⟩] rfl (own_lit1 w3 stN X) (.slice ao n cp) L rfl (H.out.2.2.1 _ H3.out.1) (by have := HN.out.1; simp; omega) (by simp) ?_; intro v5 w5 o5 g5; have A5 := H3.out.1.grown g5 (by have := H3.out.2; simp; omega) (fun q e => by have : w3.heap.size = q := Option.some.inj e; have := H3.out.2; omega); obtain ⟨u0, u1⟩ := cel2 A5; have H5 : Hid _ := And.intro A5 o5; clear A5 o5 g5))
    all_goals
      go_wp2
      (try simp only [Exit.inBlock, Exit.then])
      refine bodyPost_ret (results_tmp2 rfl _ _ _) rfl ?_
      exact ⟨_, rfl, H5.out.2.mono (by have := H3.out.2; omega), H.out.2.1 _ H5.out.1⟩
end Go.Proofs.YtdhkcejfcmobcaaDoor
