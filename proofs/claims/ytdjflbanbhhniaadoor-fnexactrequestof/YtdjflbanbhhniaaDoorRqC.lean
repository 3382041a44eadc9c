import Derived.Test.YtdjflbanbhhniaaDoorRqB
import Derived.Test.YtdjflbanbhhniaaDoorMkF
import Derived.Test.YtdjflbanbhhniaaDoorQpJ
namespace Go.Proofs.YtdjflbanbhhniaaDoor
open Go.RowKit
set_option linter.unusedVariables false

abbrev mtN : ByteArray := ⟨#[58, 109, 101, 116, 104, 111, 100]⟩
abbrev scN : ByteArray := ⟨#[58, 115, 99, 104, 101, 109, 101]⟩
abbrev auN : ByteArray := ⟨#[58, 97, 117, 116, 104, 111, 114, 105, 116, 121]⟩
abbrev paN : ByteArray := ⟨#[58, 112, 97, 116, 104]⟩
/-- The fields ahead of the path, the path's, and those behind. -/
def rqH (m s a : ByteArray) : List SField := if 0 < a.size then [⟨mtN, m⟩, ⟨scN, s⟩] ++ [⟨auN, a⟩] else [⟨mtN, m⟩, ⟨scN, s⟩]
def rqR (m s a p : ByteArray) (L : List SField) : List SField × Int := if rqOK m s a p L = true then (rqH m s a ++ [⟨paN, p⟩] ++ L, 0) else ([], 1)
theorem oL1 (w : World) (x y : ByteArray) : GRow 2 (w.alloc (.cells #[.string x, .string y] 44)) (.slice (some ⟨w.heap.size, 0, none⟩) 1 1) (SField.L [⟨x, y⟩]) := lit_fieldQ w x y
theorem oL2 (w : World) (x y x' y' : ByteArray) : GOwns 44 2 (w.alloc (.cells #[.string x, .string y, .string x', .string y'] 44)) w.heap.size (.slice (some ⟨w.heap.size, 0, none⟩) 2 2) (SField.L [⟨x, y⟩, ⟨x', y'⟩]) :=
  GOwns.ofFQ (World.ownsRow_lit _ #[.string x, .string y, .string x', .string y'] 2 (Nat.le_refl _) (by decide) rfl)
theorem oN0 (w : World) : GOwns 44 2 (w.alloc (.cells #[] 44)) w.heap.size (.slice (some ⟨w.heap.size, 0, none⟩) 0 0) (SField.L []) :=
  GOwns.ofFQ (World.ownsRow_lit _ #[] 0 (Nat.le_refl _) (by decide) rfl)
theorem gown_nilR (w : World) (base : Nat) : GOwns 44 2 w base (.slice none 0 0) (SField.L []) := ⟨[], ⟨rfl, Or.inl ⟨rfl, rfl⟩⟩, fun j hj => by simp [SField.L] at hj⟩
theorem grow_next {W u u' : World} {B : Nat} {v : Value} {R : List (List Value)} (A : Below B W u) (o : GOwns 44 2 u B v R) (hB : B ≤ u.heap.size) (g : u.grownBy u' v.ownBlock) : Below B W u' := A.grown g hB (fun k e => (o.ltFQ k e).1)
set_option maxRecDepth 20000 in
set_option maxHeartbeats 4000000 in
theorem rqfS (m s a p : ByteArray) (v : Value) (L : List SField) (w : World) (h : GRow 2 w v (SField.L L)) (hR : L.length ≤ 1048576) (hf : fin L) (zm : m.size ≤ 9223372036854775807) (zs : s.size ≤ 9223372036854775807) (za : a.size ≤ 9223372036854775807) (zp : p.size ≤ 9223372036854775807) :
    Calls Tryd.prog 6 #[.agg #[.string m, .string s, .string a, .string p, v]] w fun e w' => ∃ r, e = .returned (.tuple #[r, .int .i64 (rqR m s a p L).2]) ∧ GOwns 44 2 w' w.heap.size r (SField.L (rqR m s a p L).1) ∧ Below w.heap.size w w' := by
  have bA : ∀ u, Below (w.heap.size + 1) (w.alloc (.cells #[.string m, .string s, .string a, .string p, v] 30)) u → Below w.heap.size w u := fun u hu => ((Below.refl w.heap.size w).alloc (Nat.le_refl _) _).trans (hu.mono (by omega))
  have CK := reqS m s a p v L _ (h.below (bA _ (Below.refl _ _))) hR hf zm zs za zp
  have RW : ∀ u, Below (w.heap.size + 1) (w.alloc (.cells #[.string m, .string s, .string a, .string p, v] 30)) u → GRow 2 u v (SField.L L) := fun u hu => h.below (bA u hu)
  have hro := frow_form h
  cases hK : rqOK m s a p L with
  | false =>
    rw [show rqR m s a p L = ([], 1) by unfold rqR; rw [hK]; rfl]
    rw [hK] at CK
    obtain ⟨ao, cp, rfl⟩ := hro
    obtain ⟨n, en⟩ : ∃ n, n = L.length := ⟨_, rfl⟩
    rw [← en] at CK bA ⊢
    have H : Hid _ := And.intro CK bA
    clear CK bA RW h hR hf en hK zm zs za zp
    go_enter Tryd.func6, Tryd.ntmps6
    go_wp2_with fail
    go_at_call 19
    refine H.out.1.mono ?_
    rintro e w1 ⟨rfl, b1⟩
    have B1 := H.out.2 w1 (by simpa using b1)
    have H1 : Hid _ := And.intro (B1.alloc B1.size (.cells #[] 44)) ((oN0 w1).mono (base' := w.heap.size) B1.size)
    clear b1 B1
    go_wp2
    (try simp only [Exit.inBlock, Exit.then])
    refine bodyPost_ret (results_tmp2 rfl _ _ _) rfl ?_
    exact ⟨_, rfl, H1.out.2, H1.out.1⟩
  | true =>
    rw [show rqR m s a p L = (rqH m s a ++ [⟨paN, p⟩] ++ L, 0) by unfold rqR; rw [hK]; rfl]
    rw [hK] at CK
    obtain ⟨ao, cp, rfl⟩ := hro
    have HN : Hid _ := hR
    have HA : Hid (∀ b : Bool, b = decide (0 < a.size) → rqH m s a = if b then [⟨mtN, m⟩, ⟨scN, s⟩] ++ [⟨auN, a⟩] else [⟨mtN, m⟩, ⟨scN, s⟩]) := fun b hb => by unfold rqH; rw [hb]; by_cases q : 0 < a.size <;> simp [q]
    obtain ⟨n, en⟩ : ∃ n, n = L.length := ⟨_, rfl⟩
    rw [← en] at CK bA RW ⊢
    have H : Hid _ := And.intro CK (And.intro bA (And.intro RW True.intro))
    clear CK bA RW h hR hf en hK zm zs zp
    go_enter Tryd.func6, Tryd.ntmps6
    go_wp2_with fail
    go_at_call 19
    refine H.out.1.mono ?_
    rintro e w1 ⟨rfl, b1⟩
    have A1 : Below (w.heap.size + 1) (w.alloc (.cells #[.string m, .string s, .string a, .string p, .slice ao n cp] 30)) w1 := by simpa using b1
    have z1 : w.heap.size + 1 ≤ w1.heap.size := by have := A1.size; simpa using this
    have al : Below w1.heap.size w1 (w1.alloc (.cells #[.string mtN, .string m, .string scN, .string s] 44)) := (Below.refl _ _).alloc (Nat.le_refl _) _
    have A2 := A1.trans (al.mono z1)
    have o2 := (oL2 w1 mtN m scN s).mono (base' := w.heap.size + 1) z1
    obtain ⟨x0, x1, x2, x3, x4⟩ := cel5 A1
    obtain ⟨y0, y1, y2, y3, y4⟩ := cel5 A2
    have zz : (w1.alloc (.cells #[.string mtN, .string m, .string scN, .string s] 44)).heap.size = w1.heap.size + 1 := by simp
    have H1 : Hid _ := And.intro A2 (And.intro o2 (And.intro z1 zz))
    clear b1 A1 al A2 o2 z1 zz
    by_cases ha : 0 < a.size
    · have HE : Hid _ := HA.out true (by simp [ha])
      have ha' : (0 : Int) < (a.size : Int) := by omega
      have al3 : Below (w1.alloc (.cells #[.string mtN, .string m, .string scN, .string s] 44)).heap.size (w1.alloc (.cells #[.string mtN, .string m, .string scN, .string s] 44)) ((w1.alloc (.cells #[.string mtN, .string m, .string scN, .string s] 44)).alloc (.cells #[.string auN, .string a] 44)) := (Below.refl _ _).alloc (Nat.le_refl _) _
      have B3 := H1.out.1.trans (al3.mono (by have := H1.out.2.2.1; have := H1.out.2.2.2; omega))
      have P3 := H1.out.2.1.below al3
      have L3 := oL1 (w1.alloc (.cells #[.string mtN, .string m, .string scN, .string s] 44)) auN a
      rw [H1.out.2.2.2] at L3
      have Z3 : w.heap.size + 1 ≤ ((w1.alloc (.cells #[.string mtN, .string m, .string scN, .string s] 44)).alloc (.cells #[.string auN, .string a] 44)).heap.size := Nat.le_trans (by have := H1.out.2.2.1; have := H1.out.2.2.2; omega) al3.size
      obtain ⟨c30, c31, c32, c33, c34⟩ := cel5 B3
      have K3 : Hid _ := And.intro B3 (And.intro P3 (And.intro L3 Z3))
      clear al3 B3 P3 L3 Z3
      go_wp2_with (first
        | (refine wpList_append_fieldsQ rfl _ _ 26 Tryd.underlying26 rfl (w.heap.size + 1) _ ([⟨mtN, m⟩, ⟨scN, s⟩]) rfl K3.out.2.1 _ [⟨auN, a⟩] rfl K3.out.2.2.1 (by simp) K3.out.2.2.2 ?_; intro v3 w3 o3 g3; have A3 := grow_next K3.out.1 K3.out.2.1 K3.out.2.2.2 g3; have z3 : w.heap.size + 1 ≤ w3.heap.size := (by have := A3.size; simpa using this); clear c30 c31 c32 c33 c34 x0 x1 x2 x3 x4 y0 y1 y2 y3 y4; obtain ⟨y0, y1, y2, y3, y4⟩ := cel5 A3; have H3 : Hid _ := And.intro A3 (And.intro o3 z3); clear A3 o3 g3 z3; have al5 : Below w3.heap.size w3 (w3.alloc (.cells #[.string paN, .string p] 44)) := (Below.refl _ _).alloc (Nat.le_refl _) _; have B5 := H3.out.1.trans (al5.mono H3.out.2.2); have P5 := H3.out.2.1.below al5; have L5 := oL1 w3 paN p; have Z5 : w.heap.size + 1 ≤ (w3.alloc (.cells #[.string paN, .string p] 44)).heap.size := Nat.le_trans H3.out.2.2 al5.size; obtain ⟨c50, c51, c52, c53, c54⟩ := cel5 B5; have K5 : Hid _ := And.intro B5 (And.intro P5 (And.intro L5 Z5)); clear al5 B5 P5 L5 Z5)
        | (refine wpList_append_fieldsQ rfl _ _ 26 Tryd.underlying26 rfl (w.heap.size + 1) v3 ([⟨mtN, m⟩, ⟨scN, s⟩] ++ [⟨auN, a⟩]) rfl K5.out.2.1 _ [⟨paN, p⟩] rfl K5.out.2.2.1 (by simp) K5.out.2.2.2 ?_; intro v5 w5 o5 g5; have A5 := grow_next K5.out.1 K5.out.2.1 K5.out.2.2.2 g5; have z5 : w.heap.size + 1 ≤ w5.heap.size := (by have := A5.size; simpa using this); clear c50 c51 c52 c53 c54 y0 y1 y2 y3 y4; obtain ⟨y0, y1, y2, y3, y4⟩ := cel5 A5; have H5 : Hid _ := And.intro A5 (And.intro o5 z5); clear A5 o5 g5 z5)
        | (refine wpList_append_fieldsQ rfl _ _ 26 Tryd.underlying26 rfl (w.heap.size + 1) v5 ([⟨mtN, m⟩, ⟨scN, s⟩] ++ [⟨auN, a⟩] ++ [⟨paN, p⟩]) rfl H5.out.2.1 (.slice ao n cp) L rfl (H.out.2.2.1 _ H5.out.1) (by have := HN.out; simp; omega) H5.out.2.2 ?_; intro v6 w6 o6 g6; have H6 : Hid _ := And.intro (grow_next H5.out.1 H5.out.2.1 H5.out.2.2 g6) o6; clear o6 g6))
      (try go_wp2)
      (try simp only [Exit.inBlock, Exit.then])
      refine bodyPost_ret (results_tmp2 rfl _ _ _) rfl ?_
      exact ⟨_, rfl, by rw [HE.out]; exact H6.out.2.mono (by omega), H.out.2.1 _ H6.out.1⟩
    · have HE : Hid _ := HA.out false (by simp [ha])
      have ha' : ¬ (0 : Int) < (a.size : Int) := by omega
      have al5 : Below (w1.alloc (.cells #[.string mtN, .string m, .string scN, .string s] 44)).heap.size (w1.alloc (.cells #[.string mtN, .string m, .string scN, .string s] 44)) ((w1.alloc (.cells #[.string mtN, .string m, .string scN, .string s] 44)).alloc (.cells #[.string paN, .string p] 44)) := (Below.refl _ _).alloc (Nat.le_refl _) _
      have B5 := H1.out.1.trans (al5.mono (by have := H1.out.2.2.1; have := H1.out.2.2.2; omega))
      have P5 := H1.out.2.1.below al5
      have L5 := oL1 (w1.alloc (.cells #[.string mtN, .string m, .string scN, .string s] 44)) paN p
      rw [H1.out.2.2.2] at L5
      have Z5 : w.heap.size + 1 ≤ ((w1.alloc (.cells #[.string mtN, .string m, .string scN, .string s] 44)).alloc (.cells #[.string paN, .string p] 44)).heap.size := Nat.le_trans (by have := H1.out.2.2.1; have := H1.out.2.2.2; omega) al5.size
      obtain ⟨c50, c51, c52, c53, c54⟩ := cel5 B5
      have K5 : Hid _ := And.intro B5 (And.intro P5 (And.intro L5 Z5))
      clear al5 B5 P5 L5 Z5
      go_wp2_with (first
        | (refine wpList_append_fieldsQ rfl _ _ 26 Tryd.underlying26 rfl (w.heap.size + 1) _ ([⟨mtN, m⟩, ⟨scN, s⟩]) rfl K5.out.2.1 _ [⟨paN, p⟩] rfl K5.out.2.2.1 (by simp) K5.out.2.2.2 ?_; intro v5 w5 o5 g5; have A5 := grow_next K5.out.1 K5.out.2.1 K5.out.2.2.2 g5; have z5 : w.heap.size + 1 ≤ w5.heap.size := (by have := A5.size; simpa using this); clear c50 c51 c52 c53 c54 x0 x1 x2 x3 x4 y0 y1 y2 y3 y4; obtain ⟨y0, y1, y2, y3, y4⟩ := cel5 A5; have H5 : Hid _ := And.intro A5 (And.intro o5 z5); clear A5 o5 g5 z5)
        | (refine wpList_append_fieldsQ rfl _ _ 26 Tryd.underlying26 rfl (w.heap.size + 1) v5 ([⟨mtN, m⟩, ⟨scN, s⟩] ++ [⟨paN, p⟩]) rfl H5.out.2.1 (.slice ao n cp) L rfl (H.out.2.2.1 _ H5.out.1) (by have := HN.out; simp; omega) H5.out.2.2 ?_; intro v6 w6 o6 g6; have H6 : Hid _ := And.intro (grow_next H5.out.1 H5.out.2.1 H5.out.2.2 g6) o6; clear o6 g6))
      (try go_wp2)
      (try simp only [Exit.inBlock, Exit.then])
      refine bodyPost_ret (results_tmp2 rfl _ _ _) rfl ?_
      exact ⟨_, rfl, by rw [HE.out]; exact H6.out.2.mono (by omega), H.out.2.1 _ H6.out.1⟩
end Go.Proofs.YtdjflbanbhhniaaDoor
