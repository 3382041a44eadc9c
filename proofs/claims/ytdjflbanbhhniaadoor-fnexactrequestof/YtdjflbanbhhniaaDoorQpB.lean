import Derived.Test.YtdjflbanbhhniaaDoorQpA
import Derived.Laws.Strings
namespace Go.Proofs.YtdjflbanbhhniaaDoor
open Go.RowKit
set_option linter.unusedVariables false

theorem bne_beqQ {a b : ByteArray} {c : Bool} (h : (a == b) = c) : (a != b) = !c := by simp [bne, h]
theorem tl_litQ (a : ByteArray) (x : Array UInt8) (c : Bool) (h : (a == (⟨x⟩ : ByteArray)) = c) : (a.toList == x.toList) = c := by
  have e1 : (a == (⟨x⟩ : ByteArray)) = (a.data == x) := rfl
  rw [e1] at h
  rw [ByteArray.toList_eq]
  subst h
  cases hd : (a.data == x) with
  | true => rw [eq_of_beq hd]; exact beq_self_eq_true _
  | false => exact beq_eq_false_iff_ne.2 (fun e => by have := Array.toList_inj.1 e; rw [this] at hd; simp at hd)
abbrev bn0 : ByteArray := ⟨#[99, 111, 110, 110, 101, 99, 116, 105, 111, 110]⟩
abbrev bl0 : List UInt8 := [99, 111, 110, 110, 101, 99, 116, 105, 111, 110]
abbrev bn1 : ByteArray := ⟨#[107, 101, 101, 112, 45, 97, 108, 105, 118, 101]⟩
abbrev bl1 : List UInt8 := [107, 101, 101, 112, 45, 97, 108, 105, 118, 101]
abbrev bn2 : ByteArray := ⟨#[116, 114, 97, 110, 115, 102, 101, 114, 45, 101, 110, 99, 111, 100, 105, 110, 103]⟩
abbrev bl2 : List UInt8 := [116, 114, 97, 110, 115, 102, 101, 114, 45, 101, 110, 99, 111, 100, 105, 110, 103]
abbrev bn3 : ByteArray := ⟨#[117, 112, 103, 114, 97, 100, 101]⟩
abbrev bl3 : List UInt8 := [117, 112, 103, 114, 97, 100, 101]
/-- None of the four names. -/
def brd (n : ByteArray) : Bool := (n == bn0) || (n == bn1) || (n == bn2) || (n == bn3)
/-- A plain field. -/
def pln (n v : ByteArray) : Bool := fOK n v && decide (bt n 0 ≠ 58) && vpl v && !brd n
set_option maxHeartbeats 4000000 in
theorem plainS (n v : ByteArray) (w : World) (hn : n.size ≤ 9223372036854775807) (hv : v.size ≤ 9223372036854775807) :
    Calls Tryd.prog 43 #[.agg #[.string n, .string v]] w fun e w' => e = .returned (.bool (pln n v)) ∧ Below w.heap.size w w' := by
  have b0 : Below w.heap.size w (w.alloc (.cells #[.string n, .string v] 44)) := (Below.refl _ _).alloc (Nat.le_refl _) _
  have C1 := fieldS n v (w.alloc (.cells #[.string n, .string v] 44)) hn hv
  have C2 : ∀ u, _ := fun u => valS v u hv
  have hsz : fOK n v = true → 1 ≤ n.size := fun h => by
    unfold fOK nOK at h
    simp only [Bool.and_eq_true, decide_eq_true_eq] at h
    exact h.1.1.1
  have cel : ∀ u, Below (w.heap.size + 1) (w.alloc (.cells #[.string n, .string v] 44)) u → u.cell? ⟨w.heap.size, 0, none⟩ = some (.string n) ∧ u.cell? ⟨w.heap.size, 1, none⟩ = some (.string v) := fun u hb => by
    have k := (hb.block w.heap.size (by omega)).trans (MapKept.heap_alloc w (.cells #[.string n, .string v] 44)).1
    simp only [World.cell?, k]
    exact ⟨rfl, rfl⟩
  obtain ⟨N, eN⟩ : ∃ N, N = pln n v := ⟨_, rfl⟩
  rw [← eN]
  unfold pln at eN
  obtain ⟨F, eF⟩ : ∃ F, F = fOK n v := ⟨_, rfl⟩
  obtain ⟨V, eV⟩ : ∃ V, V = vpl v := ⟨_, rfl⟩
  rw [← eF] at C1 eN hsz
  rw [← eV] at C2 eN
  have H : Hid _ := And.intro C1 (And.intro C2 (And.intro b0 cel))
  clear C1 C2 b0 cel eF eV
  go_enter Tryd.func43, Tryd.ntmps43
  go_wp2_with fail
  go_at_call 42
  refine H.out.1.mono ?_
  rintro e w1 ⟨rfl, b1⟩
  have A1 : Below (w.heap.size + 1) (w.alloc (.cells #[.string n, .string v] 44)) w1 := by simpa using b1
  obtain ⟨c0, c1⟩ := H.out.2.2.2 w1 A1
  have H1 : Hid _ := And.intro (H.out.2.2.1.trans (b1.mono H.out.2.2.1.size)) A1
  clear b1 A1
  cases F with
  | false =>
    have HN : Hid (N = false) := by show N = false; rw [eN]; rfl
    clear eN hsz
    go_wp2
    go_ret
    exact ⟨by rw [HN.out]; rfl, H1.out.1⟩
  | true =>
  have h1 := hsz rfl
  have ix0 : ∀ u, (Instr.index 9 (.string n) (.int .i64 0)).run Tryd.prog u = .ok (.int .u8 (bt n 0)) u := fun u => ixC n 0 (by omega) u
  obtain ⟨x, ex⟩ : ∃ x, x = bt n 0 := ⟨_, rfl⟩
  rw [← ex] at ix0 eN
  clear hsz ex
  by_cases hx : x = 58
  · have HN : Hid (N = false) := by show N = false; rw [eN]; simp [hx]
    have x0 : (x == 58) = true := by simp [hx]
    clear eN
    go_wp2
    go_ret
    exact ⟨by rw [HN.out]; rfl, H1.out.1⟩
  have x0 : (x == 58) = false := by simp [hx]
  have E1 : N = (V && !brd n) := by rw [eN]; simp [hx]
  clear eN hx
  go_wp2_with fail
  go_at_call 31
  refine (H.out.2.1 _).mono ?_
  rintro e w2 ⟨rfl, b2⟩
  have A2 := H1.out.2.trans (b2.mono (by have := Below.size H1.out.2; simpa using this))
  clear c0 c1
  obtain ⟨c0, c1⟩ := H.out.2.2.2 w2 A2
  have H2 : Hid _ := And.intro (H1.out.1.trans (b2.mono H1.out.1.size)) True.intro
  clear b2 A2
  cases V with
  | false =>
    have HN : Hid (N = false) := by show N = false; rw [E1]; rfl
    clear E1
    go_wp2
    go_ret
    exact ⟨by rw [HN.out]; rfl, H2.out.1⟩
  | true =>
  rw [Bool.true_and] at E1
  unfold brd at E1
  cases q0 : (n == bn0) with
  | true =>
    have HN : Hid (N = false) := by show N = false; rw [E1, q0]; simp
    have r0 : (n != bn0) = false := bne_beqQ q0
    have t0 : (n.toList == bl0) = true := tl_litQ n _ _ q0
    unfold bn0 at r0
    unfold bl0 at t0
    clear E1 q0
    go_wp2
    go_ret
    exact ⟨by rw [HN.out]; rfl, H2.out.1⟩
  | false =>
  have r0 : (n != bn0) = true := bne_beqQ q0
  have t0 : (n.toList == bl0) = false := tl_litQ n _ _ q0
  unfold bn0 at r0
  unfold bl0 at t0
  cases q1 : (n == bn1) with
  | true =>
    have HN : Hid (N = false) := by show N = false; rw [E1, q1]; simp
    have r1 : (n != bn1) = false := bne_beqQ q1
    have t1 : (n.toList == bl1) = true := tl_litQ n _ _ q1
    unfold bn1 at r1
    unfold bl1 at t1
    clear E1 q0 q1
    go_wp2
    go_ret
    exact ⟨by rw [HN.out]; rfl, H2.out.1⟩
  | false =>
  have r1 : (n != bn1) = true := bne_beqQ q1
  have t1 : (n.toList == bl1) = false := tl_litQ n _ _ q1
  unfold bn1 at r1
  unfold bl1 at t1
  cases q2 : (n == bn2) with
  | true =>
    have HN : Hid (N = false) := by show N = false; rw [E1, q2]; simp
    have r2 : (n != bn2) = false := bne_beqQ q2
    have t2 : (n.toList == bl2) = true := tl_litQ n _ _ q2
    unfold bn2 at r2
    unfold bl2 at t2
    clear E1 q0 q1 q2
    go_wp2
    go_ret
    exact ⟨by rw [HN.out]; rfl, H2.out.1⟩
  | false =>
  have r2 : (n != bn2) = true := bne_beqQ q2
  have t2 : (n.toList == bl2) = false := tl_litQ n _ _ q2
  unfold bn2 at r2
  unfold bl2 at t2
  cases q3 : (n == bn3) with
  | true =>
    have HN : Hid (N = false) := by show N = false; rw [E1, q3]; simp
    have r3 : (n != bn3) = false := bne_beqQ q3
    have t3 : (n.toList == bl3) = true := tl_litQ n _ _ q3
    unfold bn3 at r3
    unfold bl3 at t3
    clear E1 q0 q1 q2 q3
    go_wp2
    go_ret
    exact ⟨by rw [HN.out]; rfl, H2.out.1⟩
  | false =>
  have r3 : (n != bn3) = true := bne_beqQ q3
  have t3 : (n.toList == bl3) = false := tl_litQ n _ _ q3
  unfold bn3 at r3
  unfold bl3 at t3
  have HN : Hid (N = true) := by show N = true; rw [E1, q0, q1, q2, q3]; rfl
  clear E1 q0 q1 q2 q3
  go_wp2
  go_ret
  exact ⟨by rw [HN.out]; rfl, H2.out.1⟩
end Go.Proofs.YtdjflbanbhhniaaDoor
