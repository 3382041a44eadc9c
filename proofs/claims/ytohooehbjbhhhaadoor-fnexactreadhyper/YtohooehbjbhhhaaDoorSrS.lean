import Derived.Test.YtohooehbjbhhhaaDoorRdG
import Derived.Test.YtohooehbjbhhhaaDoorSpecVal
import Derived.Test.YtohooehbjbhhhaaDoorGetVarP
namespace Go.Proofs.YtohooehbjbhhhaaDoor
open Go.RowKit
set_option linter.unusedVariables false

theorem copyS (v : Value) (xs : List Int) (w : World) (h : Row w .u8 v xs) (h1 : xs.length ≤ 65536) :
    Calls Tryd.prog 29 #[v] w fun e w' => ∃ r, e = .returned r ∧ w'.ownsRow w.heap.size 5 1 r xs.length (xs.map (Value.int .u8)) ∧ Below w.heap.size w w' := by
  obtain ⟨ao, cap, rfl⟩ := h.form
  have B0 : Below w.heap.size w (w.alloc (.cells #[] 5)) := (Below.refl _ _).alloc (Nat.le_refl _) _
  have hlit : (w.alloc (.cells #[] 5)).ownsRow w.heap.size 5 1 (.slice (some ⟨w.heap.size, 0, none⟩) 0 0) 0 (([] : List Int).map (Value.int .u8)) := World.ownsRow_lit w #[] 0 (Nat.le_refl _) (by decide) rfl
  have hr := h.below B0
  obtain ⟨m, hm⟩ : ∃ m, m = xs.length := ⟨_, rfl⟩
  have HH : Hid _ := And.intro B0 (And.intro hlit (And.intro hr (And.intro hm h1)))
  rw [← hm]
  clear B0 hlit hr hm h1 h
  go_enter Tryd.func29, Tryd.ntmps29
  go_wp2_with (at_builtin; refine wpList_append_row rfl _ _ rfl w.heap.size (.slice (some ⟨w.heap.size, 0, none⟩) 0 0) 0 [] rfl HH.out.2.1 (.slice ao m cap) xs rfl (by rw [HH.out.2.2.2.1]; exact HH.out.2.2.1) (by have := HH.out.2.2.2.2; omega) (by simp) ?_; intro v1 w1 o1 g1)
  rw [← HH.out.2.2.2.1, Nat.zero_add, List.nil_append] at o1
  have hb : Below w.heap.size w w1 := HH.out.1.grown g1 (by simp) (fun j hj => (HH.out.2.1.lt j hj).1)
  have HF : Hid _ := And.intro o1 hb
  clear o1 g1 hb
  go_wp2_with fail
  go_ret
  exact ⟨v1, rfl, HF.out.1, HF.out.2⟩
/-- The model's reader, as its block holds it. -/
def srB (w : World) (g : Nat) (vb : Value) (p : Int) (sh : Bool) : Prop := w.heap[g]? = some (.cells #[vb, .int .i64 p, .bool sh] 36 (0, 0))
theorem srB.c0 {w : World} {g : Nat} {vb : Value} {p : Int} {sh : Bool} (h : srB w g vb p sh) : w.cell? ⟨g, 0, none⟩ = some vb := (bk_cell h 0).trans rfl
theorem srB.c1 {w : World} {g : Nat} {vb : Value} {p : Int} {sh : Bool} (h : srB w g vb p sh) : w.cell? ⟨g, 1, none⟩ = some (.int .i64 p) := (bk_cell h 1).trans rfl
theorem srB.c2 {w : World} {g : Nat} {vb : Value} {p : Int} {sh : Bool} (h : srB w g vb p sh) : w.cell? ⟨g, 2, none⟩ = some (.bool sh) := (bk_cell h 2).trans rfl
theorem srB.fr {w : World} {g : Nat} {vb : Value} {p : Int} {sh : Bool} (h : srB w g vb p sh) (o : Nat) : w.frozen? ⟨g, o, none⟩ = false := bk_free h o
theorem srB.lt {w : World} {g : Nat} {vb : Value} {p : Int} {sh : Bool} (h : srB w g vb p sh) : g < w.heap.size := (Array.getElem?_eq_some_iff.1 h).1
theorem srB.set1 {w : World} {g : Nat} {vb : Value} {p : Int} {sh : Bool} (h : srB w g vb p sh) (q : Int) : srB (w.setCell ⟨g, 1, none⟩ (.int .i64 q)) g vb q sh := bk_set h 1 _
theorem srB.set2 {w : World} {g : Nat} {vb : Value} {p : Int} {sh : Bool} (h : srB w g vb p sh) (q : Bool) : srB (w.setCell ⟨g, 2, none⟩ (.bool q)) g vb p q := bk_set h 2 _
theorem srB.below {w w' : World} {g : Nat} {vb : Value} {p : Int} {sh : Bool} (h : srB w g vb p sh) (hb : Below w.heap.size w w') : srB w' g vb p sh := (hb.block g h.lt).trans h
theorem srB.chg {w w' : World} {g : Nat} {vb : Value} {p : Int} {sh : Bool} {S : Nat → Prop} (h : srB w g vb p sh) (hc : Chg S w w') (hs : ¬ S g) : srB w' g vb p sh := (hc.block g h.lt hs).trans h
theorem Chg.alloc {S : Nat → Prop} {w w' : World} (h : Chg S w w') (o : Obj) : Chg S w (w'.alloc o) := h.trans (Chg.of_below ((Below.refl _ _).alloc (Nat.le_refl _) o))
set_option maxRecDepth 20000 in
set_option maxHeartbeats 1000000 in
theorem takeS_no (g : Nat) (ao : Option Addr) (n cap : Nat) (p k : Int) (sh : Bool) (w : World) (h : srB w g (.slice ao n cap) p sh) (hp : 0 ≤ p ∧ p ≤ n) (hn : n ≤ 9223372036854775807) (hk : sh = true ∨ (n : Int) - p < k) :
    Calls Tryd.prog 13 #[.pointer (some ⟨g, 0, none⟩), .int .i64 k] w fun e w' => ∃ q, e = .returned (.slice (some ⟨q, 0, none⟩) 0 0) ∧ w.heap.size ≤ q ∧ w'.ownsRow w.heap.size 5 1 (.slice (some ⟨q, 0, none⟩) 0 0) 0 (([] : List Int).map (Value.int .u8)) ∧ srB w' g (.slice ao n cap) p true ∧ Chg (· = g) w w' := by
  have c0 := h.c0
  have c1 := h.c1
  have c2 := h.c2
  have f2 := h.fr 2
  have hw : IntKind.i64.wrap ((n : Int) - p) = (n : Int) - p := by rw [IntKind.wrap_i64]; omega
  have hR : srB ((w.setCell ⟨g, 2, none⟩ (.bool true)).alloc (.cells #[] 5)).drew g (.slice ao n cap) p true := (h.set2 true).chg ((Chg.refl (fun _ => False) _).alloc _).drew (fun hh => hh)
  have hC : Chg (· = g) w ((w.setCell ⟨g, 2, none⟩ (.bool true)).alloc (.cells #[] 5)).drew := (((Chg.refl (· = g) w).set g 2 (.bool true) rfl).alloc _).drew
  have hO : ((w.setCell ⟨g, 2, none⟩ (.bool true)).alloc (.cells #[] 5)).drew.ownsRow w.heap.size 5 1 (.slice (some ⟨w.heap.size, 0, none⟩) 0 0) 0 (([] : List Int).map (Value.int .u8)) := by
    have e := World.ownsRow_lit (w.setCell ⟨g, 2, none⟩ (.bool true)) #[] 0 (base := w.heap.size) (e := 5) (size := 1) (by simp [World.setCell]) (by decide) rfl
    rw [sizeS] at e
    exact e
  have HH : Hid _ := And.intro hR (And.intro hC hO)
  clear hR hC hO h
  cases sh
  · have hk' : decide ((n : Int) - p < k) = true := decide_eq_true (by rcases hk with hk | hk; cases hk; exact hk)
    clear hk
    go_enter Tryd.func13, Tryd.ntmps13
    go_wp2_with fail
    go_region
    go_wp2_with fail
    go_ret
    exact ⟨_, rfl, Nat.le_refl _, HH.out.2.2, HH.out.1, HH.out.2.1⟩
  · clear hk
    go_enter Tryd.func13, Tryd.ntmps13
    go_wp2_with fail
    go_region
    go_wp2_with fail
    go_ret
    exact ⟨_, rfl, Nat.le_refl _, HH.out.2.2, HH.out.1, HH.out.2.1⟩
set_option maxRecDepth 20000 in
set_option maxHeartbeats 2000000 in
theorem takeS_ok (g b off n cap p k : Nat) (xs : List Int) (w : World) (h : srB w g (.slice (some ⟨b, off, none⟩) n cap) p false) (hl : Lies w b off n cap xs) (hgb : b ≠ g) (hn : n ≤ 65536) (hk : p + k ≤ n) :
    Calls Tryd.prog 13 #[.pointer (some ⟨g, 0, none⟩), .int .i64 k] w fun e w' => ∃ v, e = .returned v ∧ w'.ownsRow w.heap.size 5 1 v k ((sub xs p k).map (Value.int .u8)) ∧
      srB w' g (.slice (some ⟨b, off, none⟩) n cap) ((p + k : Nat) : Int) false ∧ Chg (· = g) w w' := by
  have c0 := h.c0
  have c1 := h.c1
  have c2 := h.c2
  have f1 := h.fr 1
  have hw0 : IntKind.i64.wrap ((n : Int) - p) = (n : Int) - p := by rw [IntKind.wrap_i64]; omega
  have hw : IntKind.i64.wrap ((p : Int) + k) = p + k := by rw [IntKind.wrap_i64]; omega
  have hw2 : IntKind.i64.wrap ((p : Int) + k - k) = p := by rw [IntKind.wrap_i64]; omega
  have hw3 : IntKind.i64.wrap (p : Int) = p := by rw [IntKind.wrap_i64]; omega
  have hA : 0 ≤ (p : Int) + k ∧ (p : Int) + k ≤ cap := by have := hl.fits; omega
  have hM : max ((p : Int) + k) 0 = (p : Int) + k := by omega
  have hC : (p : Int) ≤ (p : Int) + k := by omega
  have hT : ((p : Int) + k).toNat = p + k := by omega
  have CH : Chg (· = g) w ((w.setCell ⟨g, 1, none⟩ (.int .i64 ((p : Int) + k))).drew.drew) := ⟨rfl, rfl, rfl, by simp [World.setCell], fun q hq hs => bk_other (w := w) hs 1 _⟩
  have hR : srB ((w.setCell ⟨g, 1, none⟩ (.int .i64 ((p : Int) + k))).drew.drew) g (.slice (some ⟨b, off, none⟩) n cap) ((p : Int) + k) false := h.set1 _
  have hlen : (sub xs p k).length = k := sub_len xs p k (by rw [hl.len]; exact hk)
  have RW : Row _ .u8 _ (sub xs p k) := (hl.chg CH hgb).rowI p k hk
  have hcp := copyS _ _ _ RW (by rw [hlen]; omega)
  have HH : Hid _ := And.intro CH (And.intro hR hlen)
  have hk' : decide ((n : Int) - p < k) = false := decide_eq_false (by omega)
  clear CH hR RW hlen hl h hk
  generalize sub xs p k = ys at *
  go_enter Tryd.func13, Tryd.ntmps13
  go_wp2_with fail
  go_region
  go_wp2_with fail
  go_region_law (go_simp; go_at_call 29; refine hcp.mono ?_; rintro e w2 ⟨r, rfl, o2, b2⟩)
  all_goals (have HF : Hid _ := And.intro o2 (And.intro (HH.out.2.1.below b2) (HH.out.1.trans (Chg.of_below b2))); clear o2 b2; go_wp2_with fail)
  all_goals first
    | (go_ret; exact ⟨r, rfl, by rw [HH.out.2.2] at HF; exact owns_mono HF.out.1 (by simp [World.setCell]), HF.out.2.1, HF.out.2.2⟩)
    | (subst h; go_ret; exact ⟨r, rfl, by rw [HH.out.2.2] at HF; exact owns_mono HF.out.1 (by simp [World.setCell]), HF.out.2.1, HF.out.2.2⟩)
end Go.Proofs.YtohooehbjbhhhaaDoor
