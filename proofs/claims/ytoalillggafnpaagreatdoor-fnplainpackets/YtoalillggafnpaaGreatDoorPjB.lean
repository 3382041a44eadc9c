import Derived.Test.YtoalillggafnpaaGreatDoorPjA
namespace Go.Proofs.YtoalillggafnpaaGreatDoor
open Go.RowKit
set_option linter.unusedVariables false

theorem copyS (v : Value) (xs : List Int) (w : World) (h : Row w .u8 v xs) (h1 : xs.length ≤ 65536) :
    Calls Tryz.prog 44 #[v] w fun e w' => ∃ r, e = .returned r ∧ w'.ownsRow w.heap.size 5 1 r xs.length (xs.map (Value.int .u8)) ∧ Below w.heap.size w w' := by
  obtain ⟨ao, cap, rfl⟩ := h.form
  have B0 : Below w.heap.size w (w.alloc (.cells #[] 5)) := (Below.refl _ _).alloc (Nat.le_refl _) _
  have hlit : (w.alloc (.cells #[] 5)).ownsRow w.heap.size 5 1 (.slice (some ⟨w.heap.size, 0, none⟩) 0 0) 0 (([] : List Int).map (Value.int .u8)) := World.ownsRow_lit w #[] 0 (Nat.le_refl _) (by decide) rfl
  have hr := h.below B0
  obtain ⟨m, hm⟩ : ∃ m, m = xs.length := ⟨_, rfl⟩
  have HH : Hid _ := And.intro B0 (And.intro hlit (And.intro hr (And.intro hm h1)))
  rw [← hm]
  clear B0 hlit hr hm h1 h
  go_enter Tryz.func44, Tryz.ntmps44
  go_wp2_with (at_builtin; refine wpList_append_row rfl _ _ rfl w.heap.size (.slice (some ⟨w.heap.size, 0, none⟩) 0 0) 0 [] rfl HH.out.2.1 (.slice ao m cap) xs rfl (by rw [HH.out.2.2.2.1]; exact HH.out.2.2.1) (by have := HH.out.2.2.2.2; omega) (by simp) ?_; intro v1 w1 o1 g1)
  rw [← HH.out.2.2.2.1, Nat.zero_add, List.nil_append] at o1
  have hb : Below w.heap.size w w1 := HH.out.1.grown g1 (by simp) (fun j hj => (HH.out.2.1.lt j hj).1)
  have HF : Hid _ := And.intro o1 hb
  clear o1 g1 hb
  go_wp2_with fail
  go_ret
  exact ⟨v1, rfl, HF.out.1, HF.out.2⟩
/-- The model's reader, as its block holds it. -/
def srB (w : World) (g : Nat) (vb : Value) (p : Int) (sh : Bool) : Prop := w.heap[g]? = some (.cells #[vb, .int .i64 p, .bool sh] 98 (0, 0))
theorem srB.c0 {w : World} {g : Nat} {vb : Value} {p : Int} {sh : Bool} (h : srB w g vb p sh) : w.cell? ⟨g, 0, none⟩ = some vb := (bk_cell h 0).trans rfl
theorem srB.c1 {w : World} {g : Nat} {vb : Value} {p : Int} {sh : Bool} (h : srB w g vb p sh) : w.cell? ⟨g, 1, none⟩ = some (.int .i64 p) := (bk_cell h 1).trans rfl
theorem srB.c2 {w : World} {g : Nat} {vb : Value} {p : Int} {sh : Bool} (h : srB w g vb p sh) : w.cell? ⟨g, 2, none⟩ = some (.bool sh) := (bk_cell h 2).trans rfl
theorem srB.fr {w : World} {g : Nat} {vb : Value} {p : Int} {sh : Bool} (h : srB w g vb p sh) (o : Nat) : w.frozen? ⟨g, o, none⟩ = false := bk_free h o
theorem srB.lt {w : World} {g : Nat} {vb : Value} {p : Int} {sh : Bool} (h : srB w g vb p sh) : g < w.heap.size := (Array.getElem?_eq_some_iff.1 h).1
theorem srB.set1 {w : World} {g : Nat} {vb : Value} {p : Int} {sh : Bool} (h : srB w g vb p sh) (q : Int) : srB (w.setCell ⟨g, 1, none⟩ (.int .i64 q)) g vb q sh := bk_set h 1 _
theorem srB.set2 {w : World} {g : Nat} {vb : Value} {p : Int} {sh : Bool} (h : srB w g vb p sh) (q : Bool) : srB (w.setCell ⟨g, 2, none⟩ (.bool q)) g vb p q := bk_set h 2 _
theorem srB.below {w w' : World} {g : Nat} {vb : Value} {p : Int} {sh : Bool} (h : srB w g vb p sh) (hb : Below w.heap.size w w') : srB w' g vb p sh := (hb.block g h.lt).trans h
theorem srB.chg {w w' : World} {g : Nat} {vb : Value} {p : Int} {sh : Bool} {S : Nat → Prop} (h : srB w g vb p sh) (hc : Chg S w w') (hs : ¬ S g) : srB w' g vb p sh := (hc.block g h.lt hs).trans h
theorem Chg.alloc {S : Nat → Prop} {w w' : World} (h : Chg S w w') (o : Obj) : Chg S w (w'.alloc o) := h.trans (Chg.of_below ((Below.refl _ _).alloc (Nat.le_refl _) o))
set_option maxRecDepth 20000 in
set_option maxHeartbeats 1000000 in
theorem takeS_no (g : Nat) (ao : Option Addr) (n cap : Nat) (p k : Int) (sh : Bool) (w : World) (h : srB w g (.slice ao n cap) p sh) (hp : 0 ≤ p ∧ p ≤ n) (hn : n ≤ 9223372036854775807) (hk : sh = true ∨ (n : Int) - p < k) :
    Calls Tryz.prog 62 #[.pointer (some ⟨g, 0, none⟩), .int .i64 k] w fun e w' => ∃ q, e = .returned (.slice (some ⟨q, 0, none⟩) 0 0) ∧ w.heap.size ≤ q ∧ w'.ownsRow w.heap.size 5 1 (.slice (some ⟨q, 0, none⟩) 0 0) 0 (([] : List Int).map (Value.int .u8)) ∧ srB w' g (.slice ao n cap) p true ∧ Chg (· = g) w w' := by
  have c0 := h.c0
  have c1 := h.c1
  have c2 := h.c2
  have f2 := h.fr 2
  have hw : IntKind.i64.wrap ((n : Int) - p) = (n : Int) - p := by rw [IntKind.wrap_i64]; omega
  have hR : srB ((w.setCell ⟨g, 2, none⟩ (.bool true)).alloc (.cells #[] 5)).drew g (.slice ao n cap) p true := (h.set2 true).chg ((Chg.refl (fun _ => False) _).alloc _).drew (fun hh => hh)
  have hC : Chg (· = g) w ((w.setCell ⟨g, 2, none⟩ (.bool true)).alloc (.cells #[] 5)).drew := (((Chg.refl (· = g) w).set g 2 (.bool true) rfl).alloc _).drew
  have hO : ((w.setCell ⟨g, 2, none⟩ (.bool true)).alloc (.cells #[] 5)).drew.ownsRow w.heap.size 5 1 (.slice (some ⟨w.heap.size, 0, none⟩) 0 0) 0 (([] : List Int).map (Value.int .u8)) := by
    have e := World.ownsRow_lit (w.setCell ⟨g, 2, none⟩ (.bool true)) #[] 0 (base := w.heap.size) (e := 5) (size := 1) (by simp [World.setCell]) (by decide) rfl
    rw [sizeS] at e
    exact e
  have HH : Hid _ := And.intro hR (And.intro hC hO)
  clear hR hC hO h
  cases sh
  · have hk' : decide ((n : Int) - p < k) = true := decide_eq_true (by rcases hk with hk | hk; cases hk; exact hk)
    clear hk
    go_enter Tryz.func62, Tryz.ntmps62
    go_wp2_with fail
    go_region
    go_wp2_with fail
    go_ret
    exact ⟨_, rfl, Nat.le_refl _, HH.out.2.2, HH.out.1, HH.out.2.1⟩
  · clear hk
    go_enter Tryz.func62, Tryz.ntmps62
    go_wp2_with fail
    go_region
    go_wp2_with fail
    go_ret
    exact ⟨_, rfl, Nat.le_refl _, HH.out.2.2, HH.out.1, HH.out.2.1⟩
set_option maxRecDepth 20000 in
set_option maxHeartbeats 2000000 in
theorem takeS_ok (g b off n cap p k : Nat) (xs : List Int) (w : World) (h : srB w g (.slice (some ⟨b, off, none⟩) n cap) p false) (hl : Lies w b off n cap xs) (hgb : b ≠ g) (hn : n ≤ 65536) (hk : p + k ≤ n) :
    Calls Tryz.prog 62 #[.pointer (some ⟨g, 0, none⟩), .int .i64 k] w fun e w' => ∃ v, e = .returned v ∧ w'.ownsRow w.heap.size 5 1 v k ((sub xs p k).map (Value.int .u8)) ∧
      srB w' g (.slice (some ⟨b, off, none⟩) n cap) ((p + k : Nat) : Int) false ∧ Chg (· = g) w w' := by
  have c0 := h.c0
  have c1 := h.c1
  have c2 := h.c2
  have f1 := h.fr 1
  have hw0 : IntKind.i64.wrap ((n : Int) - p) = (n : Int) - p := by rw [IntKind.wrap_i64]; omega
  have hw : IntKind.i64.wrap ((p : Int) + k) = p + k := by rw [IntKind.wrap_i64]; omega
  have hw2 : IntKind.i64.wrap ((p : Int) + k - k) = p := by rw [IntKind.wrap_i64]; omega
  have hw3 : IntKind.i64.wrap (p : Int) = p := by rw [IntKind.wrap_i64]; omega
  have hA : 0 ≤ (p : Int) + k ∧ (p : Int) + k ≤ cap := by have := hl.fits; omega
  have hM : max ((p : Int) + k) 0 = (p : Int) + k := by omega
  have hC : (p : Int) ≤ (p : Int) + k := by omega
  have hT : ((p : Int) + k).toNat = p + k := by omega
  have CH : Chg (· = g) w ((w.setCell ⟨g, 1, none⟩ (.int .i64 ((p : Int) + k))).drew.drew) := ⟨rfl, rfl, rfl, by simp [World.setCell], fun q hq hs => bk_other (w := w) hs 1 _⟩
  have hR : srB ((w.setCell ⟨g, 1, none⟩ (.int .i64 ((p : Int) + k))).drew.drew) g (.slice (some ⟨b, off, none⟩) n cap) ((p : Int) + k) false := h.set1 _
  have hlen : (sub xs p k).length = k := sub_len xs p k (by rw [hl.len]; exact hk)
  have RW : Row _ .u8 _ (sub xs p k) := (hl.chg CH hgb).rowI p k hk
  have hcp := copyS _ _ _ RW (by rw [hlen]; omega)
  have HH : Hid _ := And.intro CH (And.intro hR hlen)
  have hk' : decide ((n : Int) - p < k) = false := decide_eq_false (by omega)
  clear CH hR RW hlen hl h hk
  generalize sub xs p k = ys at *
  go_enter Tryz.func62, Tryz.ntmps62
  go_wp2_with fail
  go_region
  go_wp2_with fail
  go_region_law (go_simp; go_at_call 44; refine hcp.mono ?_; rintro e w2 ⟨r, rfl, o2, b2⟩)
  all_goals (have HF : Hid _ := And.intro o2 (And.intro (HH.out.2.1.below b2) (HH.out.1.trans (Chg.of_below b2))); clear o2 b2; go_wp2_with fail)
  all_goals first
    | (go_ret; exact ⟨r, rfl, by rw [HH.out.2.2] at HF; exact owns_mono HF.out.1 (by simp [World.setCell]), HF.out.2.1, HF.out.2.2⟩)
    | (subst h; go_ret; exact ⟨r, rfl, by rw [HH.out.2.2] at HF; exact owns_mono HF.out.1 (by simp [World.setCell]), HF.out.2.1, HF.out.2.2⟩)
end Go.Proofs.YtoalillggafnpaaGreatDoor

namespace Go.Proofs.YtoalillggafnpaaGreatDoor
open Go.RowKit
set_option linter.unusedVariables false

theorem fixedS_no (g : Nat) (ao : Option Addr) (n cap : Nat) (p k : Int) (sh : Bool) (w : World) (h : srB w g (.slice ao n cap) p sh) (hp : 0 ≤ p ∧ p ≤ n) (hn : n ≤ 9223372036854775807) (hk : sh = true ∨ (n : Int) - p < k) :
    Calls Tryz.prog 61 #[.pointer (some ⟨g, 0, none⟩), .int .i64 k] w fun e w' => e = .returned (.int .i64 0) ∧ srB w' g (.slice ao n cap) p true ∧ Chg (· = g) w w' := by
  have ht := takeS_no g ao n cap p k sh w h hp hn hk
  clear h hp hn hk
  go_enter Tryz.func61, Tryz.ntmps61
  go_wp2_with fail
  go_at_call 62
  refine ht.mono ?_
  rintro e w1 ⟨q, rfl, hq, o1, r1, c1⟩
  have hc := value_core 0 [] q 0 0 w1 (by decide) rfl (fun x hx => by cases hx) (by decide) (fun j hj => by omega)
  go_wp2_with fail
  go_at_call 90
  refine hc.mono ?_
  rintro e w2 ⟨rfl, rfl⟩
  go_wp2_with fail
  go_ret
  exact ⟨rfl, r1, c1⟩
set_option maxRecDepth 20000 in
theorem fixedS_ok (g b off n cap p k : Nat) (xs : List Int) (w : World) (h : srB w g (.slice (some ⟨b, off, none⟩) n cap) p false) (hl : Lies w b off n cap xs) (hB : Bytes xs) (hgb : b ≠ g) (hn : n ≤ 65536) (hk : p + k ≤ n) (hk1 : 1 ≤ k) (hk4 : k ≤ 4) :
    Calls Tryz.prog 61 #[.pointer (some ⟨g, 0, none⟩), .int .i64 k] w fun e w' => e = .returned (.int .i64 (vals (sub xs p k))) ∧
      srB w' g (.slice (some ⟨b, off, none⟩) n cap) ((p + k : Nat) : Int) false ∧ Chg (· = g) w w' := by
  have ht := takeS_ok g b off n cap p k xs w h hl hgb hn hk
  have hv := numK_lt xs hB p k hk4
  have hlen : (sub xs p k).length = k := sub_len xs p k (by rw [hl.len]; exact hk)
  have hby := sub_bytes hB p k
  have HH : Hid _ := And.intro hlen (And.intro hby (And.intro hk1 (And.intro hk4 hv)))
  generalize sub xs p k = ys at *
  clear hlen hby hv hk1 hk4 hl hB hk
  go_enter Tryz.func61, Tryz.ntmps61
  go_wp2_with fail
  go_at_call 62
  refine ht.mono ?_
  rintro e w1 ⟨v, rfl, o1, r1, c1⟩
  obtain ⟨q, cp, ev, hq, hq2⟩ := owns_shape o1 HH.out.2.2.1
  subst ev
  have hc := value_core k ys q 0 cp w1 (by have := HH.out.2.2.2.1; omega) HH.out.1 HH.out.2.1 (by have := HH.out.2.2.2.2; omega) (fun j hj => by have := owns_cell o1 HH.out.1 hj; rwa [Nat.zero_add])
  have HF : Hid _ := And.intro r1 c1
  clear r1 c1 o1 hq hq2
  go_wp2_with fail
  go_at_call 90
  refine hc.mono ?_
  rintro e w2 ⟨rfl, rfl⟩
  go_wp2_with fail
  go_ret
  exact ⟨rfl, HF.out.1, HF.out.2⟩
theorem variableS_sh (g : Nat) (vb : Value) (p : Int) (w : World) (h : srB w g vb p true) :
    Calls Tryz.prog 66 #[.pointer (some ⟨g, 0, none⟩)] w fun e w' => e = .returned (.int .i64 0) ∧ w' = w := by
  have c2 := h.c2
  clear h
  go_enter Tryz.func66, Tryz.ntmps66
  go_wp2_with fail
  go_ret
  exact ⟨rfl, rfl⟩
set_option maxRecDepth 20000 in
set_option maxHeartbeats 1000000 in
theorem variableS_ok (g b off n cap p : Nat) (xs : List Int) (w : World) (h : srB w g (.slice (some ⟨b, off, none⟩) n cap) p false) (hl : Lies w b off n cap xs) (hB : Bytes xs) (hn : n ≤ 65536) (hv : varOK xs p) :
    Calls Tryz.prog 66 #[.pointer (some ⟨g, 0, none⟩)] w fun e w' => e = .returned (.int .i64 (varV xs p)) ∧
      srB w' g (.slice (some ⟨b, off, none⟩) n cap) ((varN xs p : Nat) : Int) false ∧ Chg (· = g) w w' := by
  have hr : Row w.drew .u8 (.slice (some ⟨b, off, none⟩) n cap) xs := by
    have := (hl.row 0 n (by omega)).drewN 1
    rwa [Nat.add_zero, Nat.sub_zero, List.drop_zero, List.take_of_length_le (by rw [hl.len]; exact Nat.le_refl _)] at this
  have hg := specGetVar _ xs p w.drew hr hB (by rw [hl.len]; omega)
  rw [gv_yes xs p (by rw [hl.len]; exact hn) hv] at hg
  dsimp only at hg
  have d2 := h.c2
  have c0 : w.drew.cell? ⟨g, 0, none⟩ = _ := h.c0
  have c1 : w.drew.cell? ⟨g, 1, none⟩ = _ := h.c1
  have f1 : w.drew.frozen? ⟨g, 1, none⟩ = false := h.fr 1
  have HH : Hid _ := And.intro h True.intro
  generalize varV xs p = V at *
  generalize varN xs p = N at *
  clear h hr hl hv
  go_enter Tryz.func66, Tryz.ntmps66
  go_wp2_with fail
  go_region_with (go_at_call 91; refine hg.mono ?_; rintro e w2 ⟨rfl, hw2⟩; rw [hw2]; clear hw2 w2)
  all_goals (go_wp2_with fail; go_ret)
  all_goals (exact ⟨rfl, HH.out.1.set1 _, ⟨rfl, rfl, rfl, by simp [World.setCell], fun q hq hs => bk_other (w := w) hs 1 _⟩⟩)
set_option maxRecDepth 20000 in
set_option maxHeartbeats 1000000 in
theorem variableS_no (g b off n cap p : Nat) (xs : List Int) (w : World) (h : srB w g (.slice (some ⟨b, off, none⟩) n cap) p false) (hl : Lies w b off n cap xs) (hB : Bytes xs) (hn : n ≤ 65536) (hp : p ≤ n) (hv : ¬ varOK xs p) :
    Calls Tryz.prog 66 #[.pointer (some ⟨g, 0, none⟩)] w fun e w' => e = .returned (.int .i64 0) ∧
      srB w' g (.slice (some ⟨b, off, none⟩) n cap) p true ∧ Chg (· = g) w w' := by
  have hr : Row w.drew .u8 (.slice (some ⟨b, off, none⟩) n cap) xs := by
    have := (hl.row 0 n (by omega)).drewN 1
    rwa [Nat.add_zero, Nat.sub_zero, List.drop_zero, List.take_of_length_le (by rw [hl.len]; exact Nat.le_refl _)] at this
  have hg := specGetVar _ xs p w.drew hr hB (by rw [hl.len]; omega)
  rw [gv_not xs p (by rw [hl.len]; exact hn) (by rw [hl.len]; exact hp) hv] at hg
  dsimp only at hg
  have d2 := h.c2
  have c0 : w.drew.cell? ⟨g, 0, none⟩ = _ := h.c0
  have c1 : w.drew.cell? ⟨g, 1, none⟩ = _ := h.c1
  have f2 : w.drew.frozen? ⟨g, 2, none⟩ = false := h.fr 2
  have HH : Hid _ := And.intro h True.intro
  clear h hr hl hv
  go_enter Tryz.func66, Tryz.ntmps66
  go_wp2_with fail
  go_region_with (go_at_call 91; refine hg.mono ?_; rintro e w2 ⟨rfl, hw2⟩; rw [hw2]; clear hw2 w2)
  all_goals (go_wp2_with fail; go_ret)
  all_goals (exact ⟨rfl, HH.out.1.set2 _, ⟨rfl, rfl, rfl, by simp [World.setCell], fun q hq hs => bk_other (w := w) hs 2 _⟩⟩)
theorem faultS (g : Nat) (vb : Value) (p : Int) (sh : Bool) (w : World) (h : srB w g vb p sh) : Calls Tryz.prog 63 #[.pointer (some ⟨g, 0, none⟩)] w fun e w' => e = .returned (.int .i64 (if sh then 2 else 3)) ∧ w' = w := by
  have c2 := h.c2
  clear h
  cases sh
  · go_enter Tryz.func63, Tryz.ntmps63
    go_wp2_with fail
    go_ret
    exact ⟨rfl, rfl⟩
  · go_enter Tryz.func63, Tryz.ntmps63
    go_wp2_with fail
    go_ret
    exact ⟨rfl, rfl⟩
end Go.Proofs.YtoalillggafnpaaGreatDoor

namespace Go.Proofs.YtoalillggafnpaaGreatDoor
open Go.RowKit
set_option linter.unusedVariables false

/-- The versions that the model reads: none where there is a fault. -/
def versOut (xs : List Int) (p : Nat) : List Int := match pkVer xs p with | .ok L => L | .error _ => []
theorem ownsRow_empty (w : World) (base : Nat) (hb : base ≤ w.heap.size) (t : TypeId) : (w.alloc (.cells #[] t)).ownsRow base t 1 (.slice (some ⟨w.heap.size, 0, none⟩) 0 0) 0 (([] : List Int).map (Value.int .i64)) :=
  World.ownsRow_lit w #[] 0 (base := base) (e := t) (size := 1) hb (by decide) rfl
set_option maxRecDepth 20000 in
set_option maxHeartbeats 4000000 in
theorem versS (g b off n cap p : Nat) (xs : List Int) (w : World) (h : srB w g (.slice (some ⟨b, off, none⟩) n cap) p false) (hl : Lies w b off n cap xs) (hB : Bytes xs) (hgb : b ≠ g) (hn : n ≤ 65536) (hp : p ≤ n) :
    Calls Tryz.prog 64 #[.pointer (some ⟨g, 0, none⟩)] w fun e w' => Chg (· = g) w w' ∧ (∃ pp, srB w' g (.slice (some ⟨b, off, none⟩) n cap) pp false) ∧ ∃ v, e = .returned v ∧ w'.ownsRow w.heap.size 3 1 v (versOut xs p).length ((versOut xs p).map (Value.int .i64)) := by
  have hlen := hl.len
  obtain ⟨R, hR⟩ : ∃ R : Nat, n = p + R := ⟨n - p, by omega⟩
  obtain ⟨m, hm⟩ : ∃ m : Nat, R / 4 = m := ⟨_, rfl⟩
  obtain ⟨j, hj⟩ : ∃ j : Nat, R % 4 = j := ⟨_, rfl⟩
  have hRi : IntKind.i64.wrap ((n : Int) - p) = (R : Int) := by rw [IntKind.wrap_i64]; omega
  have hjm : (R : Int).tmod 4 = (j : Int) := by rw [Int.tmod_eq_emod_of_nonneg (by omega)]; omega
  have hjw : IntKind.i64.wrap (j : Int) = (j : Int) := by rw [IntKind.wrap_i64]; omega
  have ex : pkVer xs p = if j ≠ 0 ∨ m < 1 ∨ 8 < m then .error 3 else if (versL xs p m).all (fun x => decide (x ≠ 0)) = true then .ok (versL xs p m) else .error 3 := by
    unfold pkVer
    rw [show xs.length - p = R by omega, hm, hj]
  have hE := ownsRow_empty w w.heap.size (Nat.le_refl _) 3
  have C0 : Chg (· = g) w (w.alloc (.cells #[] 3)).drew := ((Chg.refl _ w).alloc _).drew
  have hS0 : srB (w.alloc (.cells #[] 3)).drew g (.slice (some ⟨b, off, none⟩) n cap) p false := h.chg ((Chg.refl (fun _ => False) w).alloc _).drew (fun hh => hh)
  have c0 := hS0.c0
  have c1 := hS0.c1
  by_cases hbad : j ≠ 0 ∨ m < 1 ∨ 8 < m
  · have e : versOut xs p = [] := by unfold versOut; rw [ex, if_pos hbad]
    rw [e]
    have HH : Hid _ := And.intro C0 (And.intro hE hS0)
    clear ex e h hl hB hlen C0 hE hS0 hR hp hn
    by_cases a1 : j = 0
    · have b1 : ((j : Int) != 0) = false := by simp [a1]
      by_cases a2 : R < 4
      · have b2 : decide ((R : Int) < 4) = true := decide_eq_true (by omega)
        clear hbad a1 a2 hm hj
        go_enter Tryz.func64, Tryz.ntmps64
        go_wp2_with fail
        go_region
        go_wp2_with fail
        go_ret
        exact ⟨HH.out.1, ⟨_, HH.out.2.2⟩, _, rfl, HH.out.2.1⟩
      · have b2 : decide ((R : Int) < 4) = false := decide_eq_false (by omega)
        have b3 : decide ((32 : Int) < (R : Int)) = true := decide_eq_true (by omega)
        clear hbad a1 a2 hm hj
        go_enter Tryz.func64, Tryz.ntmps64
        go_wp2_with fail
        go_region
        go_wp2_with fail
        go_ret
        exact ⟨HH.out.1, ⟨_, HH.out.2.2⟩, _, rfl, HH.out.2.1⟩
    · have b1 : ((j : Int) != 0) = true := by simp [a1]
      clear hbad a1 hm hj
      go_enter Tryz.func64, Tryz.ntmps64
      go_wp2_with fail
      go_region
      go_wp2_with fail
      go_ret
      exact ⟨HH.out.1, ⟨_, HH.out.2.2⟩, _, rfl, HH.out.2.1⟩
  rw [if_neg hbad] at ex
  have hj0 : j = 0 := by omega
  have hRm : R = 4 * m := by omega
  have b1 : ((j : Int) != 0) = false := by simp [hj0]
  have b2 : decide ((R : Int) < 4) = false := decide_eq_false (by omega)
  have b3 : decide ((32 : Int) < (R : Int)) = false := decide_eq_false (by omega)
  have hm8 : m ≤ 8 := by omega
  obtain ⟨i0, hi, hz0, hz1, hz2⟩ := info_parts infoI64v
  have HW : Hid _ := And.intro ex (And.intro hl (And.intro hB (And.intro hgb (And.intro hn (And.intro hR (And.intro hRm (And.intro hm8 (And.intro C0 (And.intro hE (And.intro hS0 h.lt))))))))))
  clear ex hl hB h hlen hm hj hbad hj0 C0 hE hS0 hp hm8 hRm hR
  go_enter Tryz.func64, Tryz.ntmps64
  go_wp2_with fail
  go_region
  go_wp2_with fail
  clear hjm hjw b1 b2 b3 c0 c1 hRi
  go_loopg [3] m (fun q vv wr => ∃ k : Nat, k ≤ m ∧ q = m - k ∧ srB wr g (.slice (some ⟨b, off, none⟩) n cap) ((p + 4 * k : Nat) : Int) false ∧ wr.ownsRow w.heap.size 3 1 vv k ((versL xs p k).map (Value.int .i64)) ∧ Chg (· = g) w wr ∧ ∀ j, j < k → vals (sub xs (p + 4 * j) 4) ≠ 0)
  case atStart => exact ⟨0, by omega, by omega, HW.out.2.2.2.2.2.2.2.2.2.2.1, HW.out.2.2.2.2.2.2.2.2.2.1, HW.out.2.2.2.2.2.2.2.2.1, fun j hj => by omega⟩
  case round =>
    obtain ⟨k, hk, hq, hrd, hown, hch, hnz⟩ := hrel
    have c0 : wr.drew.cell? ⟨g, 0, none⟩ = _ := hrd.c0
    have c1 : wr.drew.cell? ⟨g, 1, none⟩ = _ := hrd.c1
    by_cases hlt : k < m
    · have hli := (HW.out.2.1.chg hch HW.out.2.2.2.1).drew
      have hfx := fixedS_ok g b off n cap (p + 4 * k) 4 xs wr.drew hrd hli HW.out.2.2.1 HW.out.2.2.2.1 HW.out.2.2.2.2.1 (by have h1 := HW.out.2.2.2.2.2.1; have h2 := HW.out.2.2.2.2.2.2.1; omega) (by decide) (by decide)
      obtain ⟨x, ex⟩ : ∃ x, x = vals (sub xs (p + 4 * k) 4) := ⟨_, rfl⟩
      rw [← ex] at hfx
      have hlt' : p + 4 * k < n := by have h1 := HW.out.2.2.2.2.2.1; have h2 := HW.out.2.2.2.2.2.2.1; omega
      obtain ⟨pk', hpk'⟩ : ∃ z : Nat, z = p + 4 * k := ⟨_, rfl⟩
      have HN : Hid _ := And.intro hlt (And.intro hk hq)
      have HI : Hid _ := And.intro ex (And.intro hrd (And.intro hown (And.intro hch hnz)))
      rw [← hpk'] at c1 hlt'
      clear ex hrd hown hch hnz hli hpk'
      by_cases hx : x = 0
      · have hx' : (x == 0) = true := by simp [hx]
        go_wp2_with fail
        go_region
        go_wp2_with fail
        go_at_call 61
        refine hfx.mono ?_
        rintro e w1 ⟨rfl, r1, c1'⟩
        go_wp2_with fail
        go_ret
        have ev : versOut xs p = [] := by
          unfold versOut
          rw [HW.out.1, if_neg]
          rw [versL_all]
          intro hall
          exact hall k HN.out.1 (by rw [← HI.out.1]; exact hx)
        have cc := HI.out.2.2.2.1.trans (((Chg.refl _ wr).drew).trans c1')
        exact ⟨cc.alloc _, ⟨_, r1.chg ((Chg.refl (fun _ => False) w1).alloc _) (fun hh => hh)⟩, _, rfl, by rw [ev]; exact ownsRow_empty w1 w.heap.size cc.size 3⟩
      · have hx' : (x == 0) = false := by simp [hx]
        go_wp2_with fail
        go_region
        go_wp2_with fail
        go_at_call 61
        refine hfx.mono ?_
        rintro e w1 ⟨rfl, r1, c1'⟩
        have cw : Chg (· = g) wr w1 := ((Chg.refl _ wr).drew).trans c1'
        have hne : ∀ q, u3.ownBlock = some q → ¬ q = g := fun q hq e => by have h1 := (HI.out.2.2.1.lt q hq).1; have h2 := HW.out.2.2.2.2.2.2.2.2.2.2.2; omega
        have o1 := cw.owns HI.out.2.2.1 hne
        have h1s : w.heap.size ≤ w1.heap.size := Nat.le_trans HI.out.2.2.2.1.size cw.size
        have HJ : Hid _ := And.intro r1 (And.intro cw h1s)
        clear r1 c1' cw hne h1s
        go_wp2_with (at_builtin; refine wpList_append_own _ rfl _ _ 33 rfl w.heap.size 3 i0 (.int .i64 0) 1 8 Tryz.underlying33 hi hz0 hz1 hz2 rfl (by decide) _ _ _ rfl (o1.alloc _) ⟨w1.heap.size, 0, none⟩ 1 1 [.int .i64 x] rfl rfl ?c1 ?c2 ?c3 ?c4 ?c5 ?_)
        case c1 =>
          intro j u hj
          match j, hj with
          | 0, hj => simp at hj; subst hj; simp [Addr.add]
        case c2 => intro u hu; simp at hu; subst hu; rfl
        case c3 => unfold maxLen; have := HN.out.1; have := HW.out.2.2.2.2.2.2.2.1; omega
        case c4 => have := HN.out.1; have := HW.out.2.2.2.2.2.2.2.1; omega
        case c5 => have := HJ.out.2.2; simp; omega
        intro v' w2 hown2 hgrow _
        have c2 : Chg (fun q => u3.ownBlock = some q) w1 w2 := (Chg.of_below ((Below.refl _ _).alloc (Nat.le_refl _) _)).trans (grown_chg hgrow)
        have hnp : ∀ q, q < w.heap.size → ¬ u3.ownBlock = some q := fun q hq e => by have h1 := (HI.out.2.2.1.lt q e).1; omega
        have r2 := HJ.out.1.chg c2 (hnp g HW.out.2.2.2.2.2.2.2.2.2.2.2)
        have c3 : Chg (· = g) w w2 := by
          have cA := HI.out.2.2.2.1.trans HJ.out.2.1
          exact ⟨c2.os.trans cA.os, c2.tape.trans cA.tape, c2.output.trans cA.output, Nat.le_trans cA.size c2.size, fun q hq hs => (c2.block q (Nat.lt_of_lt_of_le hq cA.size) (hnp q hq)).trans (cA.block q hq hs)⟩
        rw [HI.out.1, ← List.map_singleton, ← List.map_append, ← versL_succ] at hown2
        have HR : Hid _ := And.intro r2 (And.intro hown2 c3)
        clear c2 r2 c3 hown2 hgrow o1 hnp
        go_wp2_with fail
        go_roundg (m - (k + 1))
        case measure => have := HN.out; omega
        case rel =>
          refine ⟨k + 1, Nat.succ_le_of_lt HN.out.1, rfl, HR.out.1, HR.out.2.1, HR.out.2.2, fun j hj => ?_⟩
          by_cases hjk : j = k
          · subst hjk; rw [← HI.out.1]; exact hx
          · exact HI.out.2.2.2.2 j (by omega)
    · obtain rfl : k = m := by omega
      have hge : ¬ p + 4 * k < n := by have h1 := HW.out.2.2.2.2.2.1; have h2 := HW.out.2.2.2.2.2.2.1; omega
      have ev : versOut xs p = versL xs p k := by
        unfold versOut
        rw [HW.out.1, if_pos ((versL_all xs p k).2 hnz)]
      obtain ⟨pk', hpk'⟩ : ∃ z : Nat, z = p + 4 * k := ⟨_, rfl⟩
      rw [← hpk'] at c1 hge
      have HI : Hid _ := And.intro hown (And.intro hch (And.intro (versL_length xs p k) (And.intro ev hrd)))
      clear hrd hown hch hnz ev hpk'
      go_wp2_with fail
      go_region
      go_wp2_with fail
      go_ret
      exact ⟨HI.out.2.1.drew, ⟨_, show srB wr.drew _ _ _ _ from HI.out.2.2.2.2⟩, _, rfl, by rw [HI.out.2.2.2.1, HI.out.2.2.1]; exact HI.out.1⟩
end Go.Proofs.YtoalillggafnpaaGreatDoor

namespace Go.Proofs.YtoalillggafnpaaGreatDoor
open Go.RowKit
set_option linter.unusedVariables false

/-- Eight stores into one block. -/
abbrev st8 (w : World) (g : Nat) (a0 a1 a2 a3 a4 a5 a6 a7 : Value) : World := ((((((((w.setCell ⟨g, 0, none⟩ a0).setCell ⟨g, 1, none⟩ a1).setCell ⟨g, 2, none⟩ a2).setCell ⟨g, 3, none⟩ a3).setCell ⟨g, 4, none⟩ a4).setCell ⟨g, 5, none⟩ a5).setCell ⟨g, 6, none⟩ a6).setCell ⟨g, 7, none⟩ a7)
theorem st8_heap {w : World} {g : Nat} {a0 a1 a2 a3 a4 a5 a6 a7 c0 c1 c2 c3 c4 c5 c6 c7 : Value} {t : TypeId} (h : w.heap[g]? = some (.cells #[c0, c1, c2, c3, c4, c5, c6, c7] t (0, 0))) : (st8 w g a0 a1 a2 a3 a4 a5 a6 a7).heap[g]? = some (.cells #[a0, a1, a2, a3, a4, a5, a6, a7] t (0, 0)) :=
  ((bk_set (bk_set (bk_set (bk_set (bk_set (bk_set (bk_set (bk_set h 0 a0) 1 a1) 2 a2) 3 a3) 4 a4) 5 a5) 6 a6) 7 a7)).trans (congrArg (fun x => some (Obj.cells x t (0, 0))) (by simp))
theorem st8_below {w0 w : World} {B g : Nat} {a0 a1 a2 a3 a4 a5 a6 a7 : Value} (h : Below B w0 w) (hg : B ≤ g) : Below B w0 (st8 w g a0 a1 a2 a3 a4 a5 a6 a7) := (Below.setCell (Below.setCell (Below.setCell (Below.setCell (Below.setCell (Below.setCell (Below.setCell (Below.setCell h (p := ⟨g, 0, none⟩) hg a0) (p := ⟨g, 1, none⟩) hg a1) (p := ⟨g, 2, none⟩) hg a2) (p := ⟨g, 3, none⟩) hg a3) (p := ⟨g, 4, none⟩) hg a4) (p := ⟨g, 5, none⟩) hg a5) (p := ⟨g, 6, none⟩) hg a6) (p := ⟨g, 7, none⟩) hg a7)
theorem st8_chg {w0 w : World} {S : Nat → Prop} {g : Nat} {a0 a1 a2 a3 a4 a5 a6 a7 : Value} (h : Chg S w0 w) (hg : S g) : Chg S w0 (st8 w g a0 a1 a2 a3 a4 a5 a6 a7) := (Chg.set (Chg.set (Chg.set (Chg.set (Chg.set (Chg.set (Chg.set (Chg.set h g 0 a0 hg) g 1 a1 hg) g 2 a2 hg) g 3 a3 hg) g 4 a4 hg) g 5 a5 hg) g 6 a6 hg) g 7 a7 hg)
theorem st8_owns {w : World} {B g t m : Nat} {a0 a1 a2 a3 a4 a5 a6 a7 v : Value} {L : List Value} (h : w.ownsRow B t 1 v m L) (hg : g < B) : (st8 w g a0 a1 a2 a3 a4 a5 a6 a7).ownsRow B t 1 v m L := (owns_set (g := g) (i := 7) (u := a7) (owns_set (g := g) (i := 6) (u := a6) (owns_set (g := g) (i := 5) (u := a5) (owns_set (g := g) (i := 4) (u := a4) (owns_set (g := g) (i := 3) (u := a3) (owns_set (g := g) (i := 2) (u := a2) (owns_set (g := g) (i := 1) (u := a1) (owns_set (g := g) (i := 0) (u := a0) h hg) hg) hg) hg) hg) hg) hg) hg)
theorem results_row_tmp2 {P : Program} {fn : Func} {p q r : Tmp} {ty : TypeId} (h : fn.results = #[.cell p ty, .tmp q, .tmp r]) (tmps : Array Value) (w : World) (g : Nat) (t : TypeId) (cs : Array Value) (fr : Nat × Nat) (d : TypeDesc) (u v : Value)
    (hp : tmps.getD p undef = .pointer (some ⟨g, 0, none⟩)) (hq : tmps.getD q undef = u) (hr : tmps.getD r undef = v) (hg : w.heap[g]? = some (.cells cs t fr))
    (hu : P.underlying ty = some d) (hd : (match d with | .struct _ | .array _ _ => true | _ => false) = true) (hi : (P.info? ty).map (·.size) = some cs.size) :
    (results fn tmps).run P w = .ok (.tuple #[.agg cs, u, v]) w := by
  have hp' : tmps[p]?.getD undef = .pointer (some ⟨g, 0, none⟩) := by simpa using hp
  have hq' : tmps[q]?.getD undef = u := by simpa using hq
  have hr' : tmps[r]?.getD undef = v := by simpa using hr
  simp [results, h, hp', hq', hr', asAddr, run_loadVar_row w g t ty cs fr d hg hu hd hi]
theorem infoHd : (Tryz.prog.info? 24).map (·.size) = some 8 := by kernel_rfl
/-- A header in a block. -/
abbrev hdB (w : World) (g : Nat) (a0 a1 a2 a3 a4 a5 a6 a7 : Value) : Prop := w.heap[g]? = some (.cells #[a0, a1, a2, a3, a4, a5, a6, a7] 24 (0, 0))
theorem hdB_cells {w : World} {g : Nat} {a0 a1 a2 a3 a4 a5 a6 a7 : Value} (h : hdB w g a0 a1 a2 a3 a4 a5 a6 a7) : w.cell? ⟨g, 0, none⟩ = some a0 ∧ w.cell? ⟨g, 1, none⟩ = some a1 ∧ w.cell? ⟨g, 2, none⟩ = some a2 ∧ w.cell? ⟨g, 3, none⟩ = some a3 ∧ w.cell? ⟨g, 4, none⟩ = some a4 ∧ w.cell? ⟨g, 5, none⟩ = some a5 ∧ w.cell? ⟨g, 6, none⟩ = some a6 ∧ w.cell? ⟨g, 7, none⟩ = some a7 := ⟨(bk_cell h 0).trans rfl, (bk_cell h 1).trans rfl, (bk_cell h 2).trans rfl, (bk_cell h 3).trans rfl, (bk_cell h 4).trans rfl, (bk_cell h 5).trans rfl, (bk_cell h 6).trans rfl, (bk_cell h 7).trans rfl⟩
theorem hdB_free {w : World} {g : Nat} {a0 a1 a2 a3 a4 a5 a6 a7 : Value} (h : hdB w g a0 a1 a2 a3 a4 a5 a6 a7) : w.frozen? ⟨g, 0, none⟩ = false ∧ w.frozen? ⟨g, 1, none⟩ = false ∧ w.frozen? ⟨g, 2, none⟩ = false ∧ w.frozen? ⟨g, 3, none⟩ = false ∧ w.frozen? ⟨g, 4, none⟩ = false ∧ w.frozen? ⟨g, 5, none⟩ = false ∧ w.frozen? ⟨g, 6, none⟩ = false ∧ w.frozen? ⟨g, 7, none⟩ = false := ⟨bk_free h 0, bk_free h 1, bk_free h 2, bk_free h 3, bk_free h 4, bk_free h 5, bk_free h 6, bk_free h 7⟩
theorem drew_heap (X : World) (k : Nat) : X.drew.heap[k]? = X.heap[k]? := rfl
theorem owns_drew {X : World} {B t m : Nat} {v : Value} {L : List Value} (h : X.ownsRow B t 1 v m L) : X.drew.ownsRow B t 1 v m L := h
theorem Chg.trim {S : Nat → Prop} {w w' : World} (h : Chg (fun k => S k ∨ w.heap.size ≤ k) w w') : Chg S w w' := ⟨h.os, h.tape, h.output, h.size, fun k hk hn => h.block k hk (fun hh => by rcases hh with hh | hh; exact hn hh; omega)⟩
theorem Chg.wide {S : Nat → Prop} {w w' : World} {B : Nat} (h : Chg S w w') : Chg (fun k => S k ∨ B ≤ k) w w' := h.mono fun _ hk => Or.inl hk
theorem two_new (w : World) (o0 o1 : Obj) : ((w.alloc o0).alloc o1).heap[w.heap.size]? = some o0 ∧ ((w.alloc o0).alloc o1).heap[w.heap.size + 1]? = some o1 ∧ Chg (fun _ => False) w ((w.alloc o0).alloc o1) :=
  ⟨(bk_new2 w o0 o1).1, (bk_new2 w o0 o1).2, ((Chg.refl _ w).alloc _).alloc _⟩
set_option maxRecDepth 20000 in
set_option maxHeartbeats 2000000 in
theorem retryS (g b off n cap p : Nat) (xs : List Int) (f v : Int) (da sa : Option Addr) (dn dp sn sp : Nat) (w : World) (h : srB w g (.slice (some ⟨b, off, none⟩) n cap) p false) (hl : Lies w b off n cap xs) (hgb : b ≠ g) (hn : n ≤ 65536) (hp : p ≤ n) :
    Calls Tryz.prog 65 #[.pointer (some ⟨g, 0, none⟩), .agg #[.int .i64 f, .int .i64 v, .slice da dn dp, .slice sa sn sp, .slice none 0 0, .int .i64 0, .int .i64 0, .int .i64 0]] w fun e w' => Chg (· = g) w w' ∧ ((∃ c, pkRet xs p = .error c ∧ e = .returned (.tuple #[.agg #[.int .i64 0, .int .i64 0, .slice none 0 0, .slice none 0 0, .slice none 0 0, .int .i64 0, .int .i64 0, .int .i64 0], .int .i64 0, .int .i64 c])) ∨
      ∃ t vt, pkRet xs p = .ok t ∧ e = .returned (.tuple #[.agg #[.int .i64 3, .int .i64 v, .slice da dn dp, .slice sa sn sp, vt, .int .i64 0, .int .i64 0, .int .i64 0], .int .i64 n, .int .i64 0]) ∧ w'.ownsRow w.heap.size 5 1 vt t.length (t.map (Value.int .u8))) := by
  have hlen := hl.len
  have hgl := h.lt
  obtain ⟨e0, e1, C0⟩ := two_new w (.cells #[.int .i64 f, .int .i64 v, .slice da dn dp, .slice sa sn sp, .slice none 0 0, .int .i64 0, .int .i64 0, .int .i64 0] 24) (.cells #[.int .i64 0, .int .i64 0, .slice none 0 0, .slice none 0 0, .slice none 0 0, .int .i64 0, .int .i64 0, .int .i64 0] 24)
  have c0 := h.c0
  have c1 := h.c1
  have hw : IntKind.i64.wrap ((n : Int) - p) = (n : Int) - p := by rw [IntKind.wrap_i64]; omega
  have hw8 : IntKind.i64.wrap ((n : Int) - p - 8) = (n : Int) - p - 8 := by rw [IntKind.wrap_i64]; omega
  by_cases h1 : n < p + 9
  · have e : pkRet xs p = .error 2 := by unfold pkRet; rw [if_pos (by omega)]
    have b1 : decide ((n : Int) - p - 8 < 1) = true := decide_eq_true (by omega)
    have HE : Hid _ := And.intro e (And.intro e1 C0)
    clear h hl e hlen e0 e1 C0 h1
    go_enter Tryz.func65, Tryz.ntmps65
    go_wp2_with fail
    go_region
    go_wp2_with fail
    refine bodyPost_ret (v := .tuple #[.agg #[.int .i64 0, .int .i64 0, .slice none 0 0, .slice none 0 0, .slice none 0 0, .int .i64 0, .int .i64 0, .int .i64 0], .int .i64 0, .int .i64 2]) ?_ rfl ?_
    · exact results_row_tmp2 (t := 24) rfl _ _ (w.heap.size + 1) _ (fr := (0, 0)) _ _ _ rfl rfl rfl HE.out.2.1 Tryz.underlying24 rfl infoHd
    · exact ⟨⟨HE.out.2.2.os, HE.out.2.2.tape, HE.out.2.2.output, HE.out.2.2.size, fun k hk _ => HE.out.2.2.block k hk (fun hh => hh)⟩, Or.inl ⟨2, HE.out.1, rfl⟩⟩
  have b1 : decide ((n : Int) - p - 8 < 1) = false := decide_eq_false (by omega)
  by_cases h2 : p + 72 < n
  · have e : pkRet xs p = .error 3 := by unfold pkRet; rw [if_neg (by omega), if_pos (by omega)]
    have b2 : decide (64 < (n : Int) - p - 8) = true := decide_eq_true (by omega)
    have HE : Hid _ := And.intro e (And.intro e1 C0)
    clear h hl e hlen e0 e1 C0 h1 h2
    go_enter Tryz.func65, Tryz.ntmps65
    go_wp2_with fail
    go_region
    go_wp2_with fail
    refine bodyPost_ret (v := .tuple #[.agg #[.int .i64 0, .int .i64 0, .slice none 0 0, .slice none 0 0, .slice none 0 0, .int .i64 0, .int .i64 0, .int .i64 0], .int .i64 0, .int .i64 3]) ?_ rfl ?_
    · exact results_row_tmp2 (t := 24) rfl _ _ (w.heap.size + 1) _ (fr := (0, 0)) _ _ _ rfl rfl rfl HE.out.2.1 Tryz.underlying24 rfl infoHd
    · exact ⟨⟨HE.out.2.2.os, HE.out.2.2.tape, HE.out.2.2.output, HE.out.2.2.size, fun k hk _ => HE.out.2.2.block k hk (fun hh => hh)⟩, Or.inl ⟨3, HE.out.1, rfl⟩⟩
  obtain ⟨m, hm⟩ : ∃ m : Nat, n = p + m + 8 := ⟨n - p - 8, by omega⟩
  have e : pkRet xs p = .ok (sub xs p m) := by unfold pkRet; rw [if_neg (by omega), if_neg (by omega), show xs.length - p - 8 = m by omega]
  have hsl : (sub xs p m).length = m := sub_len xs p m (by omega)
  have hw8' : IntKind.i64.wrap ((n : Int) - p - 8) = (m : Int) := by rw [IntKind.wrap_i64]; omega
  have b1' : decide ((m : Int) < 1) = false := decide_eq_false (by omega)
  have b2' : decide ((64 : Int) < (m : Int)) = false := decide_eq_false (by omega)
  obtain ⟨e0', e1', C0'⟩ := two_new w (.cells #[.int .i64 3, .int .i64 v, .slice da dn dp, .slice sa sn sp, .slice none 0 0, .int .i64 0, .int .i64 0, .int .i64 0] 24) (.cells #[.int .i64 0, .int .i64 0, .slice none 0 0, .slice none 0 0, .slice none 0 0, .int .i64 0, .int .i64 0, .int .i64 0] 24)
  have hW3 : Chg (· = g) w ((w.alloc (.cells #[.int .i64 3, .int .i64 v, .slice da dn dp, .slice sa sn sp, .slice none 0 0, .int .i64 0, .int .i64 0, .int .i64 0] 24)).alloc (.cells #[.int .i64 0, .int .i64 0, .slice none 0 0, .slice none 0 0, .slice none 0 0, .int .i64 0, .int .i64 0, .int .i64 0] 24)).drew := ⟨C0'.os, C0'.tape, C0'.output, C0'.size, fun k hk _ => C0'.block k hk (fun hh => hh)⟩
  have hs3' := h.chg C0' (fun hh => hh)
  have hs3 : srB ((w.alloc (.cells #[.int .i64 3, .int .i64 v, .slice da dn dp, .slice sa sn sp, .slice none 0 0, .int .i64 0, .int .i64 0, .int .i64 0] 24)).alloc (.cells #[.int .i64 0, .int .i64 0, .slice none 0 0, .slice none 0 0, .slice none 0 0, .int .i64 0, .int .i64 0, .int .i64 0] 24)).drew g (.slice (some ⟨b, off, none⟩) n cap) p false := hs3'
  have ht := takeS_ok g b off n cap p m xs _ hs3 ((hl.chg C0' (fun hh => hh)).drew) hgb hn (by omega)
  have HE : Hid _ := And.intro e (And.intro e0' (And.intro e1' (And.intro hW3 (And.intro hsl (And.intro hgl hs3.lt)))))
  clear h hl e hlen e0 e1 C0 h1 h2 hw8 b1 hm hsl hp hn hgb e0' e1' C0' hW3 hs3 hs3'
  generalize sub xs p m = ys at *
  go_enter Tryz.func65, Tryz.ntmps65
  go_wp2_with fail
  go_region
  go_wp2_with fail
  go_at_call 62
  refine ht.mono ?_
  rintro e w4 ⟨vt, rfl, o4, r4, c4⟩
  have k0 := (c4.block w.heap.size (by simp <;> omega) (fun e => by have := HE.out.2.2.2.2.2.1; omega)).trans HE.out.2.1
  have k1 := (c4.block (w.heap.size + 1) (by simp <;> omega) (fun e => by have := HE.out.2.2.2.2.2.1; omega)).trans HE.out.2.2.1
  obtain ⟨p0, p1, p2, p3, p4, p5, p6, p7⟩ := hdB_cells k0
  have q4 : w4.frozen? ⟨w.heap.size, 4, none⟩ = false := bk_free k0 4
  obtain ⟨x0, x1, x2, x3, x4, x5, x6, x7⟩ := hdB_cells k1
  obtain ⟨y0, y1, y2, y3, y4, y5, y6, y7⟩ := hdB_free k1
  have d0 := r4.c0
  have hne : ∀ q, vt.ownBlock = some q → w.heap.size + 2 ≤ q := fun q hq => by have := (o4.lt q hq).1; simpa using this
  have cA := HE.out.2.2.2.1.trans c4
  have hgw := HE.out.2.2.2.2.2.1
  have hgn : ¬ g = w.heap.size := by omega
  have hgn1 : ¬ g = w.heap.size + 1 := by omega
  obtain ⟨ta, tp, et⟩ := (row_of_owns o4).form
  rw [HE.out.2.2.2.2.1] at et
  have HF : Hid _ := And.intro o4 (And.intro cA (And.intro hne k1))
  clear o4 r4 c4 k0 cA hne k1
  subst et
  go_wp2_with fail
  go_region
  go_wp2_with fail
  have hk1 : (w4.setCell ⟨w.heap.size, 4, none⟩ (.slice ta m tp)).heap[w.heap.size + 1]? = _ := (bk_other (by omega) 4 _).trans HF.out.2.2.2
  have hk2 : (st8 (w4.setCell ⟨w.heap.size, 4, none⟩ (.slice ta m tp)) (w.heap.size + 1) (.int .i64 3) (.int .i64 v) (.slice da dn dp) (.slice sa sn sp) (.slice ta m tp) (.int .i64 0) (.int .i64 0) (.int .i64 0)).heap[w.heap.size + 1]? = some (.cells #[.int .i64 3, .int .i64 v, .slice da dn dp, .slice sa sn sp, .slice ta m tp, .int .i64 0, .int .i64 0, .int .i64 0] 24 (0, 0)) := st8_heap hk1
  have hc1 : Chg (fun k => k = g ∨ w.heap.size ≤ k) w (w4.setCell ⟨w.heap.size, 4, none⟩ (.slice ta m tp)) := (HF.out.2.1.wide (B := w.heap.size)).set w.heap.size 4 (.slice ta m tp) (Or.inr (Nat.le_refl _))
  have hc2 : Chg (fun k => k = g ∨ w.heap.size ≤ k) w (st8 (w4.setCell ⟨w.heap.size, 4, none⟩ (.slice ta m tp)) (w.heap.size + 1) (.int .i64 3) (.int .i64 v) (.slice da dn dp) (.slice sa sn sp) (.slice ta m tp) (.int .i64 0) (.int .i64 0) (.int .i64 0)) := st8_chg hc1 (Or.inr (by omega))
  have hc3 : Chg (fun k => k = g ∨ w.heap.size ≤ k) w (st8 (w4.setCell ⟨w.heap.size, 4, none⟩ (.slice ta m tp)) (w.heap.size + 1) (.int .i64 3) (.int .i64 v) (.slice da dn dp) (.slice sa sn sp) (.slice ta m tp) (.int .i64 0) (.int .i64 0) (.int .i64 0)).drew := hc2.drew
  have hB2 : w.heap.size + 1 < ((w.alloc (.cells #[.int .i64 3, .int .i64 v, .slice da dn dp, .slice sa sn sp, .slice none 0 0, .int .i64 0, .int .i64 0, .int .i64 0] 24)).alloc (.cells #[.int .i64 0, .int .i64 0, .slice none 0 0, .slice none 0 0, .slice none 0 0, .int .i64 0, .int .i64 0, .int .i64 0] 24)).drew.heap.size := by simp
  have ho0 := HF.out.1
  generalize ((w.alloc (.cells #[.int .i64 3, .int .i64 v, .slice da dn dp, .slice sa sn sp, .slice none 0 0, .int .i64 0, .int .i64 0, .int .i64 0] 24)).alloc (.cells #[.int .i64 0, .int .i64 0, .slice none 0 0, .slice none 0 0, .slice none 0 0, .int .i64 0, .int .i64 0, .int .i64 0] 24)).drew.heap.size = Bz at ho0 hB2
  have ho1 : (w4.setCell ⟨w.heap.size, 4, none⟩ (.slice ta m tp)).ownsRow Bz 5 1 (.slice ta m tp) m (ys.map (Value.int .u8)) := owns_set ho0 (by omega)
  have ho2 : (st8 (w4.setCell ⟨w.heap.size, 4, none⟩ (.slice ta m tp)) (w.heap.size + 1) (.int .i64 3) (.int .i64 v) (.slice da dn dp) (.slice sa sn sp) (.slice ta m tp) (.int .i64 0) (.int .i64 0) (.int .i64 0)).ownsRow Bz 5 1 (.slice ta m tp) m (ys.map (Value.int .u8)) := st8_owns ho1 hB2
  have ho3 : (st8 (w4.setCell ⟨w.heap.size, 4, none⟩ (.slice ta m tp)) (w.heap.size + 1) (.int .i64 3) (.int .i64 v) (.slice da dn dp) (.slice sa sn sp) (.slice ta m tp) (.int .i64 0) (.int .i64 0) (.int .i64 0)).drew.ownsRow w.heap.size 5 1 (.slice ta m tp) m (ys.map (Value.int .u8)) := owns_drew (owns_mono ho2 (by omega))
  have hk3 : (st8 (w4.setCell ⟨w.heap.size, 4, none⟩ (.slice ta m tp)) (w.heap.size + 1) (.int .i64 3) (.int .i64 v) (.slice da dn dp) (.slice sa sn sp) (.slice ta m tp) (.int .i64 0) (.int .i64 0) (.int .i64 0)).drew.heap[w.heap.size + 1]? = some (.cells #[.int .i64 3, .int .i64 v, .slice da dn dp, .slice sa sn sp, .slice ta m tp, .int .i64 0, .int .i64 0, .int .i64 0] 24 (0, 0)) := (drew_heap _ _).trans hk2
  have HL : Hid _ := And.intro hk3 (And.intro hc3.trim ho3)
  clear hk1 hk2 hc1 hc2 hc3 ho0 ho1 ho2 ho3 hk3
  refine bodyPost_ret (v := .tuple #[.agg #[.int .i64 3, .int .i64 v, .slice da dn dp, .slice sa sn sp, .slice ta m tp, .int .i64 0, .int .i64 0, .int .i64 0], .int .i64 n, .int .i64 0]) ?_ rfl ?_
  · exact results_row_tmp2 (t := 24) rfl _ _ (w.heap.size + 1) _ (fr := (0, 0)) _ _ _ rfl rfl rfl HL.out.1 Tryz.underlying24 rfl infoHd
  · exact ⟨HL.out.2.1, Or.inr ⟨ys, .slice ta m tp, HE.out.1, rfl, by rw [HE.out.2.2.2.2.1]; exact HL.out.2.2⟩⟩
end Go.Proofs.YtoalillggafnpaaGreatDoor

namespace Go.Proofs.YtoalillggafnpaaGreatDoor
open Go.RowKit
set_option linter.unusedVariables false

/-- The state of l04Peek: the answer's room, the empty header, the reader. -/
structure PS (w wx : World) (vb : Value) (p : Int) (sh : Bool) : Prop where
  bel : Below w.heap.size w wx
  r0 : hdB wx w.heap.size (.int .i64 0) (.int .i64 0) (.slice none 0 0) (.slice none 0 0) (.slice none 0 0) (.int .i64 0) (.int .i64 0) (.int .i64 0)
  r1 : hdB wx (w.heap.size + 1) (.int .i64 0) (.int .i64 0) (.slice none 0 0) (.slice none 0 0) (.slice none 0 0) (.int .i64 0) (.int .i64 0) (.int .i64 0)
  rd : srB wx (w.heap.size + 1 + 1) vb p sh
theorem PS.next {w wx w' : World} {vb : Value} {p p' : Int} {sh sh' : Bool} (h : PS w wx vb p sh) (r : srB w' (w.heap.size + 1 + 1) vb p' sh') (c : Chg (· = w.heap.size + 1 + 1) wx w') : PS w w' vb p' sh' :=
  ⟨h.bel.trans (c.below h.bel.size (fun k hk => by omega)), (c.block _ ((Array.getElem?_eq_some_iff.1 h.r0).1) (by omega)).trans h.r0, (c.block _ ((Array.getElem?_eq_some_iff.1 h.r1).1) (by omega)).trans h.r1, r⟩
theorem PS.grow {w wx w' : World} {vb : Value} {p : Int} {sh : Bool} (h : PS w wx vb p sh) (b : Below wx.heap.size wx w') : PS w w' vb p sh :=
  ⟨h.bel.trans (b.mono h.bel.size), (b.block _ ((Array.getElem?_eq_some_iff.1 h.r0).1)).trans h.r0, (b.block _ ((Array.getElem?_eq_some_iff.1 h.r1).1)).trans h.r1, h.rd.below b⟩
theorem PS.hset {w wx : World} {vb : Value} {p : Int} {sh : Bool} (h : PS w wx vb p sh) (hb i : Nat) (u : Value) (hl : w.heap.size + 3 ≤ hb) : PS w (wx.setCell ⟨hb, i, none⟩ u) vb p sh :=
  ⟨h.bel.setCell (p := ⟨hb, i, none⟩) (by show w.heap.size ≤ hb; omega) _, (bk_other (by omega) i u).trans h.r0, (bk_other (by omega) i u).trans h.r1, (bk_other (by omega) i u).trans h.rd⟩
theorem PS.zend {w wx : World} {vb : Value} {p : Int} {sh : Bool} (h : PS w wx vb p sh) : Below w.heap.size w (st8 wx w.heap.size (.int .i64 0) (.int .i64 0) (.slice none 0 0) (.slice none 0 0) (.slice none 0 0) (.int .i64 0) (.int .i64 0) (.int .i64 0)) ∧ (st8 wx w.heap.size (.int .i64 0) (.int .i64 0) (.slice none 0 0) (.slice none 0 0) (.slice none 0 0) (.int .i64 0) (.int .i64 0) (.int .i64 0)).heap[w.heap.size]? = some (.cells #[.int .i64 0, .int .i64 0, .slice none 0 0, .slice none 0 0, .slice none 0 0, .int .i64 0, .int .i64 0, .int .i64 0] 24 (0, 0)) :=
  ⟨st8_below h.bel (Nat.le_refl _), st8_heap h.r0⟩
theorem below_drew' {B : Nat} {w X : World} (h : Below B w X) : Below B w X.drew := ⟨h.os, h.tape, h.output, h.size, h.block⟩
theorem PS.zendD {w wx : World} {vb : Value} {p : Int} {sh : Bool} (h : PS w wx vb p sh) : Below w.heap.size w (st8 wx w.heap.size (.int .i64 0) (.int .i64 0) (.slice none 0 0) (.slice none 0 0) (.slice none 0 0) (.int .i64 0) (.int .i64 0) (.int .i64 0)).drew ∧ (st8 wx w.heap.size (.int .i64 0) (.int .i64 0) (.slice none 0 0) (.slice none 0 0) (.slice none 0 0) (.int .i64 0) (.int .i64 0) (.int .i64 0)).drew.heap[w.heap.size]? = some (.cells #[.int .i64 0, .int .i64 0, .slice none 0 0, .slice none 0 0, .slice none 0 0, .int .i64 0, .int .i64 0, .int .i64 0] 24 (0, 0)) :=
  ⟨below_drew' h.zend.1, (drew_heap _ _).trans h.zend.2⟩
theorem three_blocks (w : World) (o0 o1 o2 : Obj) : (((w.alloc o0).alloc o1).alloc o2).heap[w.heap.size]? = some o0 ∧ (((w.alloc o0).alloc o1).alloc o2).heap[w.heap.size + 1]? = some o1 ∧ (((w.alloc o0).alloc o1).alloc o2).heap[w.heap.size + 1 + 1]? = some o2 := bk_new3 w o0 o1 o2
abbrev psW (w : World) (vb : Value) : World := ((w.alloc (.cells #[.int .i64 0, .int .i64 0, .slice none 0 0, .slice none 0 0, .slice none 0 0, .int .i64 0, .int .i64 0, .int .i64 0] 24)).alloc (.cells #[.int .i64 0, .int .i64 0, .slice none 0 0, .slice none 0 0, .slice none 0 0, .int .i64 0, .int .i64 0, .int .i64 0] 24)).alloc (.cells #[vb, .int .i64 0, .bool false] 98)
theorem ps_new (w : World) (vb : Value) : PS w (psW w vb) vb 0 false := by
  obtain ⟨e0, e1, e2⟩ := three_blocks w (.cells #[.int .i64 0, .int .i64 0, .slice none 0 0, .slice none 0 0, .slice none 0 0, .int .i64 0, .int .i64 0, .int .i64 0] 24) (.cells #[.int .i64 0, .int .i64 0, .slice none 0 0, .slice none 0 0, .slice none 0 0, .int .i64 0, .int .i64 0, .int .i64 0] 24) (.cells #[vb, .int .i64 0, .bool false] 98)
  exact ⟨(((Below.refl _ _).alloc (Nat.le_refl _) _).alloc (by simp) _).alloc (by simp <;> omega) _, e0, e1, e2⟩
theorem faultS_t (g : Nat) (vb : Value) (p : Int) (w : World) (h : srB w g vb p true) : Calls Tryz.prog 63 #[.pointer (some ⟨g, 0, none⟩)] w fun e w' => e = .returned (.int .i64 2) ∧ w' = w := faultS g vb p true w h
theorem faultS_f (g : Nat) (vb : Value) (p : Int) (w : World) (h : srB w g vb p false) : Calls Tryz.prog 63 #[.pointer (some ⟨g, 0, none⟩)] w fun e w' => e = .returned (.int .i64 3) ∧ w' = w := faultS g vb p false w h
/-- What l04Peek gives. -/
def PkPost (xs : List Int) (cl : Int) (w : World) (e : Ending) (w' : World) : Prop := Below w.heap.size w w' ∧ ((∃ c, pk xs cl = .error c ∧ e = .returned (.tuple #[.agg #[.int .i64 0, .int .i64 0, .slice none 0 0, .slice none 0 0, .slice none 0 0, .int .i64 0, .int .i64 0, .int .i64 0], .int .i64 0, .int .i64 c])) ∨
  ∃ K vd vs vt, pk xs cl = .ok K ∧ e = .returned (.tuple #[.agg #[.int .i64 K.f, .int .i64 K.v, vd, vs, vt, .int .i64 0, .int .i64 0, .int .i64 0], .int .i64 K.fin, .int .i64 0]) ∧ HOwn w' w.heap.size vd vs vt ⟨K.f, K.v, K.d, K.s, K.t, 0, 0, 0⟩)
end Go.Proofs.YtoalillggafnpaaGreatDoor

namespace Go.Proofs.YtoalillggafnpaaGreatDoor
open Go.RowKit
set_option linter.unusedVariables false

set_option maxRecDepth 20000 in
set_option maxHeartbeats 4000000 in
theorem peekS_none (ao : Option Addr) (n cap m : Nat) (xs : List Int) (w : World) (hlen : xs.length = n) (h0 : n < 1) (hm : m ≤ 8) :
    Calls Tryz.prog 38 #[.slice ao n cap, .int .i64 m] w fun e w' => PkPost xs m w e w' := by
  have P0 := ps_new w (.slice ao n cap)
  have hf := fixedS_no (w.heap.size + 1 + 1) ao n cap 0 1 false _ P0.rd ⟨by omega, by omega⟩ (by omega) (Or.inr (by omega))
  have e : pk xs m = .error 2 := by unfold pk; rw [if_neg (by omega), if_neg (by omega), if_pos (by omega)]
  have HE : Hid _ := And.intro e P0
  clear e P0 hlen h0
  go_enter Tryz.func38, Tryz.ntmps38
  go_wp2_with fail
  go_at_call 61
  refine hf.mono ?_
  rintro e w1 ⟨rfl, r1, c1⟩
  have P1 := HE.out.2.next r1 c1
  have d2 := P1.rd.c2
  obtain ⟨zc0, zc1, zc2, zc3, zc4, zc5, zc6, zc7⟩ := hdB_cells P1.r0
  obtain ⟨zf0, zf1, zf2, zf3, zf4, zf5, zf6, zf7⟩ := hdB_free P1.r0
  obtain ⟨zn0, zn1, zn2, zn3, zn4, zn5, zn6, zn7⟩ := hdB_cells P1.r1
  have HP : Hid _ := And.intro P1 True.intro
  clear r1 c1 P1
  go_wp2_with fail
  refine bodyPost_ret (v := .tuple #[.agg #[.int .i64 0, .int .i64 0, .slice none 0 0, .slice none 0 0, .slice none 0 0, .int .i64 0, .int .i64 0, .int .i64 0], .int .i64 0, .int .i64 2]) ?_ rfl ?_
  · exact results_row_tmp2 (t := 24) rfl _ _ w.heap.size _ (fr := (0, 0)) _ _ _ rfl rfl rfl HP.out.1.zend.2 Tryz.underlying24 rfl infoHd
  · exact ⟨HP.out.1.zend.1, Or.inl ⟨2, HE.out.1, rfl⟩⟩
set_option maxRecDepth 20000 in
set_option maxHeartbeats 4000000 in
theorem peekS_low (b off n cap m : Nat) (xs : List Int) (w : World) (hl : Lies w b off n cap xs) (hB : Bytes xs) (hn : n ≤ 65536) (h1 : 1 ≤ n) (hm : m ≤ 8) (hF : vals (sub xs 0 1) < 64) :
    Calls Tryz.prog 38 #[.slice (some ⟨b, off, none⟩) n cap, .int .i64 m] w fun e w' => PkPost xs m w e w' := by
  have hlen := hl.len
  have P0 := ps_new w (.slice (some ⟨b, off, none⟩) n cap)
  have hbg : b ≠ w.heap.size + 1 + 1 := by have := hl.lt; omega
  have hf := fixedS_ok (w.heap.size + 1 + 1) b off n cap 0 1 xs _ P0.rd (hl.below P0.bel) hB hbg hn (by omega) (by decide) (by decide)
  have e : pk xs m = .error 3 := by unfold pk; rw [if_neg (by omega), if_neg (by omega), if_neg (by omega), if_pos hF]
  have d1 : decide (vals (sub xs 0 1) < 64) = true := decide_eq_true hF
  generalize vals (sub xs 0 1) = f at hf d1
  have HE : Hid _ := And.intro e P0
  clear e P0 hlen hF hl hB hbg
  go_enter Tryz.func38, Tryz.ntmps38
  go_wp2_with fail
  go_at_call 61
  refine hf.mono ?_
  rintro e w1 ⟨rfl, r1, c1⟩
  have P1 := HE.out.2.next r1 c1
  have d2 := P1.rd.c2
  obtain ⟨zc0, zc1, zc2, zc3, zc4, zc5, zc6, zc7⟩ := hdB_cells P1.r0
  obtain ⟨zf0, zf1, zf2, zf3, zf4, zf5, zf6, zf7⟩ := hdB_free P1.r0
  obtain ⟨zn0, zn1, zn2, zn3, zn4, zn5, zn6, zn7⟩ := hdB_cells P1.r1
  have HP : Hid _ := And.intro P1 True.intro
  clear r1 c1 P1
  go_wp2_with fail
  refine bodyPost_ret (v := .tuple #[.agg #[.int .i64 0, .int .i64 0, .slice none 0 0, .slice none 0 0, .slice none 0 0, .int .i64 0, .int .i64 0, .int .i64 0], .int .i64 0, .int .i64 3]) ?_ rfl ?_
  · exact results_row_tmp2 (t := 24) rfl _ _ w.heap.size _ (fr := (0, 0)) _ _ _ rfl rfl rfl HP.out.1.zend.2 Tryz.underlying24 rfl infoHd
  · exact ⟨HP.out.1.zend.1, Or.inl ⟨3, HE.out.1, rfl⟩⟩
set_option maxRecDepth 20000 in
set_option maxHeartbeats 4000000 in
theorem peekS_sa (b off n cap m : Nat) (xs : List Int) (w : World) (hl : Lies w b off n cap xs) (hB : Bytes xs) (hn : n ≤ 65536) (h1 : 1 ≤ n) (hm : m ≤ 8) (hF : ¬ vals (sub xs 0 1) < 64) (hF2 : vals (sub xs 0 1) < 128) (hs : n < 1 + m) :
    Calls Tryz.prog 38 #[.slice (some ⟨b, off, none⟩) n cap, .int .i64 m] w fun e w' => PkPost xs m w e w' := by
  have hlen := hl.len
  have P0 := ps_new w (.slice (some ⟨b, off, none⟩) n cap)
  have hbg : b ≠ w.heap.size + 1 + 1 := by have := hl.lt; omega
  have hf := fixedS_ok (w.heap.size + 1 + 1) b off n cap 0 1 xs _ P0.rd (hl.below P0.bel) hB hbg hn (by omega) (by decide) (by decide)
  have d1 : decide (vals (sub xs 0 1) < 64) = false := decide_eq_false hF
  have d1b : decide (vals (sub xs 0 1) < 128) = true := decide_eq_true hF2
  have e : pk xs m = .error 2 := by unfold pk; rw [if_neg (by omega), if_neg (by omega), if_neg (by omega), if_neg (by omega), if_pos hF2]; unfold pkShP; rw [Int.toNat_natCast]; unfold pkSho; rw [if_pos (by omega)]
  generalize vals (sub xs 0 1) = f at hf d1 d1b
  have HE : Hid _ := And.intro e (And.intro P0 (And.intro hn (And.intro h1 hs)))
  clear e P0 hlen hF hF2 hl hB hbg hs hn h1
  go_enter Tryz.func38, Tryz.ntmps38
  go_wp2_with fail
  go_at_call 61
  refine hf.mono ?_
  rintro e w1 ⟨rfl, r1, c1⟩
  have P1 := HE.out.2.1.next r1 c1
  have d2 := P1.rd.c2
  have ht := takeS_no (w.heap.size + 1 + 1) (some ⟨b, off, none⟩) n cap ((0 + 1 : Nat) : Int) m false w1 P1.rd ⟨by omega, by have := HE.out.2.2.2.1; omega⟩ (by have := HE.out.2.2.1; omega) (Or.inr (by have := HE.out.2.2.2.2; omega))
  have HP : Hid _ := And.intro P1 True.intro
  clear r1 c1 P1
  go_wp2_with fail
  go_at_call 62
  refine ht.mono ?_
  rintro e w2 ⟨q, rfl, hq, o2, r2, c2⟩
  have P2 := HP.out.1.next r2 c2
  have d3 := P2.rd.c2
  obtain ⟨zc0, zc1, zc2, zc3, zc4, zc5, zc6, zc7⟩ := hdB_cells P2.r0
  obtain ⟨zf0, zf1, zf2, zf3, zf4, zf5, zf6, zf7⟩ := hdB_free P2.r0
  obtain ⟨zn0, zn1, zn2, zn3, zn4, zn5, zn6, zn7⟩ := hdB_cells P2.r1
  have HQ : Hid _ := And.intro P2 True.intro
  clear r2 c2 P2 o2 d2
  go_wp2_with fail
  refine bodyPost_ret (v := .tuple #[.agg #[.int .i64 0, .int .i64 0, .slice none 0 0, .slice none 0 0, .slice none 0 0, .int .i64 0, .int .i64 0, .int .i64 0], .int .i64 0, .int .i64 2]) ?_ rfl ?_
  · exact results_row_tmp2 (t := 24) rfl _ _ w.heap.size _ (fr := (0, 0)) _ _ _ rfl rfl rfl HQ.out.1.zend.2 Tryz.underlying24 rfl infoHd
  · exact ⟨HQ.out.1.zend.1, Or.inl ⟨2, HE.out.1, rfl⟩⟩
set_option maxRecDepth 20000 in
set_option maxHeartbeats 4000000 in
theorem peekS_sb (b off n cap m : Nat) (xs : List Int) (w : World) (hl : Lies w b off n cap xs) (hB : Bytes xs) (hn : n ≤ 65536) (h1 : 1 ≤ n) (hm : m ≤ 8) (hF : ¬ vals (sub xs 0 1) < 64) (hF2 : vals (sub xs 0 1) < 128) (hs : ¬ n < 1 + m) (hs2 : n < 1 + m + 12) :
    Calls Tryz.prog 38 #[.slice (some ⟨b, off, none⟩) n cap, .int .i64 m] w fun e w' => PkPost xs m w e w' := by
  have hlen := hl.len
  have P0 := ps_new w (.slice (some ⟨b, off, none⟩) n cap)
  have hbg : b ≠ w.heap.size + 1 + 1 := by have := hl.lt; omega
  have hf := fixedS_ok (w.heap.size + 1 + 1) b off n cap 0 1 xs _ P0.rd (hl.below P0.bel) hB hbg hn (by omega) (by decide) (by decide)
  have d1 : decide (vals (sub xs 0 1) < 64) = false := decide_eq_false hF
  have d1b : decide (vals (sub xs 0 1) < 128) = true := decide_eq_true hF2
  have HD : Hid _ := And.intro hlen (And.intro hn (And.intro h1 (And.intro hs (And.intro hl hbg))))
  have hsl : (sub xs 1 m).length = m := sub_len xs 1 m (by omega)
  obtain ⟨q1, hq1⟩ : ∃ q1 : Nat, q1 = 0 + 1 + m := ⟨_, rfl⟩
  have hw : IntKind.i64.wrap ((n : Int) - (q1 : Int)) = (n : Int) - (q1 : Int) := by rw [IntKind.wrap_i64]; omega
  have e : pk xs m = .error 2 := by unfold pk; rw [if_neg (by omega), if_neg (by omega), if_neg (by omega), if_neg (by omega), if_pos hF2]; unfold pkShP; rw [Int.toNat_natCast]; unfold pkSho; rw [if_pos (by omega)]
  have d4 : decide ((n : Int) - (q1 : Int) < 12) = true := decide_eq_true (by omega)
  generalize vals (sub xs 0 1) = f at hf d1 d1b
  have HE : Hid _ := And.intro e (And.intro P0 (And.intro hq1 hsl))
  clear e P0 hlen hF hF2 hl hB hbg hs hn h1 hs2 hsl hq1
  go_enter Tryz.func38, Tryz.ntmps38
  go_wp2_with fail
  go_at_call 61
  refine hf.mono ?_
  rintro e w1 ⟨rfl, r1, c1⟩
  have P1 := HE.out.2.1.next r1 c1
  have d2 := P1.rd.c2
  have ht := takeS_ok (w.heap.size + 1 + 1) b off n cap (0 + 1) m xs w1 P1.rd (HD.out.2.2.2.2.1.below P1.bel) HD.out.2.2.2.2.2 HD.out.2.1 (by have := HD.out.2.2.2.1; omega)
  rw [← HE.out.2.2.1] at ht
  have HP : Hid _ := And.intro P1 True.intro
  clear r1 c1 P1
  go_wp2_with fail
  go_at_call 62
  refine ht.mono ?_
  rintro e w2 ⟨vd, rfl, o2, r2, c2⟩
  clear ht d2
  have P2 := HP.out.1.next r2 c2
  have d3 := P2.rd.c2
  have d3b := P2.rd.c1
  obtain ⟨zc0, zc1, zc2, zc3, zc4, zc5, zc6, zc7⟩ := hdB_cells P2.r0
  obtain ⟨zf0, zf1, zf2, zf3, zf4, zf5, zf6, zf7⟩ := hdB_free P2.r0
  obtain ⟨zn0, zn1, zn2, zn3, zn4, zn5, zn6, zn7⟩ := hdB_cells P2.r1
  have HQ : Hid _ := And.intro P2 True.intro
  clear r2 c2 P2 o2
  go_wp2_with fail
  refine bodyPost_ret (v := .tuple #[.agg #[.int .i64 0, .int .i64 0, .slice none 0 0, .slice none 0 0, .slice none 0 0, .int .i64 0, .int .i64 0, .int .i64 0], .int .i64 0, .int .i64 2]) ?_ rfl ?_
  · exact results_row_tmp2 (t := 24) rfl _ _ w.heap.size _ (fr := (0, 0)) _ _ _ rfl rfl rfl HQ.out.1.zend.2 Tryz.underlying24 rfl infoHd
  · exact ⟨HQ.out.1.zend.1, Or.inl ⟨2, HE.out.1, rfl⟩⟩
set_option maxRecDepth 20000 in
set_option maxHeartbeats 4000000 in
theorem peekS_sc (b off n cap m : Nat) (xs : List Int) (w : World) (hl : Lies w b off n cap xs) (hB : Bytes xs) (hn : n ≤ 65536) (h1 : 1 ≤ n) (hm : m ≤ 8) (hF : ¬ vals (sub xs 0 1) < 64) (hF2 : vals (sub xs 0 1) < 128) (hs : ¬ n < 1 + m) (hs2 : ¬ n < 1 + m + 12) :
    Calls Tryz.prog 38 #[.slice (some ⟨b, off, none⟩) n cap, .int .i64 m] w fun e w' => PkPost xs m w e w' := by
  have hlen := hl.len
  have P0 := ps_new w (.slice (some ⟨b, off, none⟩) n cap)
  have hbg : b ≠ w.heap.size + 1 + 1 := by have := hl.lt; omega
  have hf := fixedS_ok (w.heap.size + 1 + 1) b off n cap 0 1 xs _ P0.rd (hl.below P0.bel) hB hbg hn (by omega) (by decide) (by decide)
  have d1 : decide (vals (sub xs 0 1) < 64) = false := decide_eq_false hF
  have d1b : decide (vals (sub xs 0 1) < 128) = true := decide_eq_true hF2
  have HD : Hid _ := And.intro hlen (And.intro hn (And.intro h1 (And.intro hs (And.intro hl hbg))))
  have hsl : (sub xs 1 m).length = m := sub_len xs 1 m (by omega)
  obtain ⟨q1, hq1⟩ : ∃ q1 : Nat, q1 = 0 + 1 + m := ⟨_, rfl⟩
  have hw : IntKind.i64.wrap ((n : Int) - (q1 : Int)) = (n : Int) - (q1 : Int) := by rw [IntKind.wrap_i64]; omega
  have e : pk xs m = .ok ⟨4, 0, sub xs 1 m, [], [], [], 1 + m, xs.length⟩ := by unfold pk; rw [if_neg (by omega), if_neg (by omega), if_neg (by omega), if_neg (by omega), if_pos hF2]; unfold pkShP; rw [Int.toNat_natCast]; unfold pkSho; rw [if_neg (by omega)]
  have d4 : decide ((n : Int) - (q1 : Int) < 12) = false := decide_eq_false (by omega)
  generalize vals (sub xs 0 1) = f at hf d1 d1b
  have HE : Hid _ := And.intro e (And.intro P0 (And.intro hq1 hsl))
  clear e P0 hlen hF hF2 hl hB hbg hs hn h1 hs2 hsl hq1
  go_enter Tryz.func38, Tryz.ntmps38
  go_wp2_with fail
  go_at_call 61
  refine hf.mono ?_
  rintro e w1 ⟨rfl, r1, c1⟩
  have P1 := HE.out.2.1.next r1 c1
  have d2 := P1.rd.c2
  have ht := takeS_ok (w.heap.size + 1 + 1) b off n cap (0 + 1) m xs w1 P1.rd (HD.out.2.2.2.2.1.below P1.bel) HD.out.2.2.2.2.2 HD.out.2.1 (by have := HD.out.2.2.2.1; omega)
  rw [← HE.out.2.2.1] at ht
  have HP : Hid _ := And.intro P1 True.intro
  clear r1 c1 P1
  go_wp2_with fail
  go_at_call 62
  refine ht.mono ?_
  rintro e w2 ⟨vd, rfl, o2, r2, c2⟩
  clear ht d2
  have P2 := HP.out.1.next r2 c2
  have d3 := P2.rd.c2
  have d3b := P2.rd.c1
  obtain ⟨da, dp, ed⟩ := (row_of_owns o2).form
  rw [show List.length _ = m from HE.out.2.2.2] at ed
  subst ed
  obtain ⟨zc0, zc1, zc2, zc3, zc4, zc5, zc6, zc7⟩ := hdB_cells P2.r0
  obtain ⟨zf0, zf1, zf2, zf3, zf4, zf5, zf6, zf7⟩ := hdB_free P2.r0
  obtain ⟨zn0, zn1, zn2, zn3, zn4, zn5, zn6, zn7⟩ := hdB_cells P2.r1
  have hN : w.heap.size < w1.heap.size := by have := HP.out.1.rd.lt; omega
  have hE8 := st8_heap (a0 := .int .i64 4) (a1 := .int .i64 0) (a2 := .slice da m dp) (a3 := .slice none 0 0) (a4 := .slice none 0 0) (a5 := .int .i64 0) (a6 := .int .i64 0) (a7 := .int .i64 0) P2.r0
  have hB8 := st8_below (a0 := .int .i64 4) (a1 := .int .i64 0) (a2 := .slice da m dp) (a3 := .slice none 0 0) (a4 := .slice none 0 0) (a5 := .int .i64 0) (a6 := .int .i64 0) (a7 := .int .i64 0) P2.bel (Nat.le_refl w.heap.size)
  have hO8 := st8_owns (a0 := .int .i64 4) (a1 := .int .i64 0) (a2 := .slice da m dp) (a3 := .slice none 0 0) (a4 := .slice none 0 0) (a5 := .int .i64 0) (a6 := .int .i64 0) (a7 := .int .i64 0) o2 hN
  have HQ : Hid _ := And.intro hE8 (And.intro hB8 (owns_mono hO8 (Nat.le_of_lt hN)))
  clear r2 c2 P2 o2 hE8 hB8 hO8 hN
  go_wp2_with fail
  refine bodyPost_ret (v := .tuple #[.agg #[.int .i64 4, .int .i64 0, .slice da m dp, .slice none 0 0, .slice none 0 0, .int .i64 0, .int .i64 0, .int .i64 0], .int .i64 n, .int .i64 0]) ?_ rfl ?_
  · exact results_row_tmp2 (t := 24) rfl _ _ w.heap.size _ (fr := (0, 0)) _ _ _ rfl rfl rfl HQ.out.1 Tryz.underlying24 rfl infoHd
  · refine ⟨HQ.out.2.1, Or.inr ⟨_, .slice da m dp, .slice none 0 0, .slice none 0 0, HE.out.1, by rw [HD.out.1], ⟨?_, World.ownsRow_nil _ _ _ _, World.ownsRow_nil _ _ _ _, apart_nil _, apart_nil _, apart_nil _⟩⟩⟩
    show World.ownsRow _ _ _ _ _ (sub xs 1 m).length _
    rw [HE.out.2.2.2]
    exact HQ.out.2.2
end Go.Proofs.YtoalillggafnpaaGreatDoor

namespace Go.Proofs.YtoalillggafnpaaGreatDoor
open Go.RowKit
set_option linter.unusedVariables false

theorem pk_long (xs : List Int) (m : Nat) (hn : xs.length ≤ 65536) (h1 : 1 ≤ xs.length) (hm : m ≤ 8) (hF : ¬ vals (sub xs 0 1) < 128) : pk xs m = pkLong xs (vals (sub xs 0 1)) := by
  unfold pk; rw [if_neg (by omega), if_neg (by omega), if_neg (by omega), if_neg (by omega), if_neg hF]
theorem cid_e1 (xs : List Int) (p : Nat) (h : xs.length < p + 1) : pkCid xs p = .error 2 := by unfold pkCid; rw [if_pos h]
theorem cid_e2 (xs : List Int) (p V : Nat) (h : ¬ xs.length < p + 1) (hV : vals (sub xs p 1) = (V : Int)) (h8 : 8 < V) : pkCid xs p = .error 3 := by unfold pkCid; rw [if_neg h, hV, if_pos (by omega)]
theorem cid_e3 (xs : List Int) (p V : Nat) (h : ¬ xs.length < p + 1) (hV : vals (sub xs p 1) = (V : Int)) (h8 : ¬ 8 < V) (hs : xs.length < p + 1 + V) : pkCid xs p = .error 2 := by unfold pkCid; rw [if_neg h, hV, if_neg (by omega), Int.toNat_natCast, if_pos hs]
theorem cid_ok (xs : List Int) (p V : Nat) (h : ¬ xs.length < p + 1) (hV : vals (sub xs p 1) = (V : Int)) (h8 : ¬ 8 < V) (hs : ¬ xs.length < p + 1 + V) : pkCid xs p = .ok (sub xs (p + 1) V, p + 1 + V) := by unfold pkCid; rw [if_neg h, hV, if_neg (by omega), Int.toNat_natCast, if_neg hs]
/-- The state of l04Peek behind the version: the header under way in the block hb. -/
structure PH (w wx : World) (hb : Nat) (vb : Value) (p : Int) (sh : Bool) (a0 a1 a2 a3 a4 : Value) : Prop where
  ps : PS w wx vb p sh
  hd : hdB wx hb a0 a1 a2 a3 a4 (.int .i64 0) (.int .i64 0) (.int .i64 0)
  lo : w.heap.size + 3 ≤ hb
theorem PH.next {w wx w' : World} {hb : Nat} {vb : Value} {p p' : Int} {sh sh' : Bool} {a0 a1 a2 a3 a4 : Value} (h : PH w wx hb vb p sh a0 a1 a2 a3 a4) (r : srB w' (w.heap.size + 1 + 1) vb p' sh') (c : Chg (· = w.heap.size + 1 + 1) wx w') : PH w w' hb vb p' sh' a0 a1 a2 a3 a4 :=
  ⟨h.ps.next r c, (c.block hb ((Array.getElem?_eq_some_iff.1 h.hd).1) (by have := h.lo; omega)).trans h.hd, h.lo⟩
theorem ph_new {w w2 : World} {vb : Value} {p : Int} {sh : Bool} (h : PS w w2 vb p sh) (v : Int) : PH w (w2.alloc (.cells #[.int .i64 0, .int .i64 v, .slice none 0 0, .slice none 0 0, .slice none 0 0, .int .i64 0, .int .i64 0, .int .i64 0] 24)) w2.heap.size vb p sh (.int .i64 0) (.int .i64 v) (.slice none 0 0) (.slice none 0 0) (.slice none 0 0) :=
  ⟨h.grow ((Below.refl _ _).alloc (Nat.le_refl _) _), heap_alloc_new w2 _, by have := h.rd.lt; omega⟩
theorem PH.set0 {w wx : World} {hb : Nat} {vb : Value} {p : Int} {sh : Bool} {a0 a1 a2 a3 a4 : Value} (h : PH w wx hb vb p sh a0 a1 a2 a3 a4) (u : Value) : PH w (wx.setCell ⟨hb, 0, none⟩ u) hb vb p sh u a1 a2 a3 a4 := ⟨h.ps.hset hb 0 u h.lo, (bk_set h.hd 0 u).trans (congrArg (fun x => some (Obj.cells x 24 (0, 0))) (by simp)), h.lo⟩
theorem PH.set2 {w wx : World} {hb : Nat} {vb : Value} {p : Int} {sh : Bool} {a0 a1 a2 a3 a4 : Value} (h : PH w wx hb vb p sh a0 a1 a2 a3 a4) (u : Value) : PH w (wx.setCell ⟨hb, 2, none⟩ u) hb vb p sh a0 a1 u a3 a4 := ⟨h.ps.hset hb 2 u h.lo, (bk_set h.hd 2 u).trans (congrArg (fun x => some (Obj.cells x 24 (0, 0))) (by simp)), h.lo⟩
theorem PH.set3 {w wx : World} {hb : Nat} {vb : Value} {p : Int} {sh : Bool} {a0 a1 a2 a3 a4 : Value} (h : PH w wx hb vb p sh a0 a1 a2 a3 a4) (u : Value) : PH w (wx.setCell ⟨hb, 3, none⟩ u) hb vb p sh a0 a1 a2 u a4 := ⟨h.ps.hset hb 3 u h.lo, (bk_set h.hd 3 u).trans (congrArg (fun x => some (Obj.cells x 24 (0, 0))) (by simp)), h.lo⟩
theorem PH.set4 {w wx : World} {hb : Nat} {vb : Value} {p : Int} {sh : Bool} {a0 a1 a2 a3 a4 : Value} (h : PH w wx hb vb p sh a0 a1 a2 a3 a4) (u : Value) : PH w (wx.setCell ⟨hb, 4, none⟩ u) hb vb p sh a0 a1 a2 a3 u := ⟨h.ps.hset hb 4 u h.lo, (bk_set h.hd 4 u).trans (congrArg (fun x => some (Obj.cells x 24 (0, 0))) (by simp)), h.lo⟩
theorem srB.drewX {w : World} {g : Nat} {vb : Value} {p : Int} {sh : Bool} (h : srB w g vb p sh) : srB w.drew g vb p sh := h
theorem beh_e1 (xs : List Int) (p : Nat) (h : ¬ varOK xs p) : pkBeh xs p = .error 2 := by unfold pkBeh; rw [if_neg h]
theorem beh_e2 (xs : List Int) (p U : Nat) (h : varOK xs p) (hU : varV xs p = (U : Int)) (hb : U < 12 ∨ 1508 < U) : pkBeh xs p = .error 3 := by unfold pkBeh; rw [if_pos h, hU, if_pos (by omega)]
theorem beh_e3 (xs : List Int) (p U M : Nat) (h : varOK xs p) (hU : varV xs p = (U : Int)) (hM : varN xs p = M) (hb : ¬ (U < 12 ∨ 1508 < U)) (hs : xs.length < M + U) : pkBeh xs p = .error 2 := by unfold pkBeh; rw [if_pos h, hU, hM, if_neg (by omega), Int.toNat_natCast, if_pos hs]
theorem beh_ok (xs : List Int) (p U M : Nat) (h : varOK xs p) (hU : varV xs p = (U : Int)) (hM : varN xs p = M) (hb : ¬ (U < 12 ∨ 1508 < U)) (hs : ¬ xs.length < M + U) : pkBeh xs p = .ok (M, M + U) := by unfold pkBeh; rw [if_pos h, hU, hM, if_neg (by omega), Int.toNat_natCast, if_neg hs]
theorem PH.ne {w wx : World} {hb : Nat} {vb : Value} {p : Int} {sh : Bool} {a0 a1 a2 a3 a4 : Value} (h : PH w wx hb vb p sh a0 a1 a2 a3 a4) : ¬ w.heap.size = hb ∧ ¬ w.heap.size + 1 = hb ∧ ¬ w.heap.size + 1 + 1 = hb ∧ ¬ hb = w.heap.size ∧ ¬ hb = w.heap.size + 1 ∧ ¬ hb = w.heap.size + 1 + 1 := by have := h.lo; omega
end Go.Proofs.YtoalillggafnpaaGreatDoor
