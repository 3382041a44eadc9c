import Derived.Test.YthokfbgpoffafaaGreatDoorKeys
import Derived.Test.YthokfbgpoffafaaGreatDoorBlocks
import Derived.Test.YthokfbgpoffafaaGreatDoorDer
import Derived.Laws.Rows
namespace Go.Proofs.YthokfbgpoffafaaGreatDoor
open Go.RowKit
set_option linter.unusedVariables false

theorem copyC (v : Value) (xs : List Int) (w : World) (h : Row w .u8 v xs) (h0 : 0 < xs.length) (h1 : xs.length ≤ 1099511627776) :
    Calls Tryz.prog 22 #[v] w fun e w' => ∃ r, e = .returned r ∧ w'.ownsRow w.heap.size 5 1 r xs.length (xs.map (Value.int .u8)) ∧ Below w.heap.size w w' := by
  obtain ⟨i0, hi, hz0, hz1, hz2⟩ := info_parts infoU8
  obtain ⟨b, off, cap, rfl, hb, hc⟩ := h.at h0
  have hcs : ∀ (j : Nat) (u : Value), (xs.map (Value.int .u8))[j]? = some u → (w.alloc (.cells #[] 5)).cell? ((⟨b, off, none⟩ : Addr).add j) = some u := by
    intro j u hj
    have hj' : j < xs.length := by
      have := (List.getElem?_eq_some_iff.1 hj).1
      rwa [List.length_map] at this
    rw [Go.WideShapes.add_plain, ((Below.refl w.heap.size w).alloc (Nat.le_refl _) (.cells #[] 5)).cell (p := ⟨b, off + j, none⟩) hb, hc j hj']
    rw [List.getElem?_map, List.getElem?_eq_getElem hj'] at hj
    simp only [Option.map_some, Option.some.injEq] at hj
    rw [← hj]
    simp [List.getD, hj']
  have hlit : (w.alloc (.cells #[] 5)).ownsRow w.heap.size 5 1 (.slice (some ⟨w.heap.size, 0, none⟩) 0 0) 0 [] := World.ownsRow_lit w #[] 0 (Nat.le_refl _) (by decide) rfl
  have hbs : w.heap.size ≤ (w.alloc (.cells #[] 5)).heap.size := by simp
  have HF : Hid _ := And.intro hcs (And.intro hlit hbs)
  obtain ⟨n, en⟩ : ∃ n, n = xs.length := ⟨_, rfl⟩
  have HL : Hid ((xs.map (Value.int .u8)).length = n * 1) := by rw [List.length_map, en]; exact (Nat.mul_one _).symm
  rw [← en] at h1 ⊢
  clear hcs hlit h hc h0 en
  go_enter Tryz.func22, Tryz.ntmps22
  go_wp2_with (at_builtin; refine wpList_append_own _ rfl _ _ 22 rfl w.heap.size 5 i0 (.int .u8 0) 1 1 Tryz.underlying22 hi hz0 hz1 hz2 rfl (by decide) (.slice (some ⟨w.heap.size, 0, none⟩) 0 0) 0 [] rfl HF.out.2.1 ⟨b, off, none⟩ n cap (xs.map (Value.int .u8)) rfl HL.out HF.out.1 (pc_one _ _) (by unfold maxLen; omega) (by omega) hbs ?_; intro v3 w3 o3 g3 _)
  have HG : Hid _ := And.intro o3 (((Below.refl w.heap.size w).alloc (Nat.le_refl _) _).grown g3 hbs (fun j hj => (HF.out.2.1.lt j hj).1))
  clear o3 g3
  go_wp2
  go_ret
  refine ⟨_, rfl, ?_, HG.out.2⟩
  have := HG.out.1
  rw [Nat.zero_add, List.nil_append] at this
  exact this

def lKey : ByteArray := ⟨#[107, 101, 121]⟩
def lIv : ByteArray := ⟨#[105, 118]⟩
def lMask : ByteArray := ⟨#[109, 97, 115, 107]⟩
def lNext : ByteArray := ⟨#[110, 101, 120, 116]⟩
def kZero : K4 := ⟨[], [], [], []⟩
/-- The keys of a secret. -/
def keysV (ss : List Int) : K4 := if ss.length = 16 then ⟨ss, derV ss lKey 16, derV ss lIv 8, derV ss lMask 16⟩ else kZero

theorem kzero_owns (w : World) (base : Nat) : KOwns w base (.agg #[.slice none 0 0, .slice none 0 0, .slice none 0 0, .slice none 0 0]) kZero := by
  have h : w.ownsRow base 5 1 (.slice none 0 0) 0 (([] : List Int).map (Value.int .u8)) := World.ownsRow_nil _ _ _ _
  have a : Apart (.slice none 0 0) (.slice none 0 0) := fun g e => by cases e
  exact ⟨_, _, _, _, rfl, h, h, h, h, a, a, a, a, a, a⟩
theorem infoKeys4 : (Tryz.prog.info? 30).map (·.size) = some 4 := by kernel_rfl

theorem owns_cell3 {wx : World} {base g n i : Nat} {u v : Value} {xs : List Value} (ho : wx.ownsRow base 5 1 v n xs) (hb : g < base) : (wx.setCell ⟨g, i, none⟩ u).ownsRow base 5 1 v n xs :=
  (Only.setCell (w := wx) ⟨g, i, none⟩ u).owns ho (fun k hk e => by have := (ho.lt k hk).1; have := Option.some.inj e; simp only at this; omega)

theorem keysV_bytes (ss : List Int) (h : Bytes ss) : (keysV ss).bytes := by
  have hn : Bytes ([] : List Int) := fun x hx => by cases hx
  unfold keysV
  split
  · exact ⟨h, derV_bytes _ _ _, derV_bytes _ _ _, derV_bytes _ _ _⟩
  · exact ⟨hn, hn, hn, hn⟩
theorem keysV_small (ss : List Int) : (keysV ss).small 64 := by
  unfold keysV
  split
  · rename_i h
    exact ⟨by show ss.length ≤ 64; omega, derV_length _ _ _, derV_length _ _ _, derV_length _ _ _⟩
  · exact ⟨Nat.zero_le _, Nat.zero_le _, Nat.zero_le _, Nat.zero_le _⟩
end Go.Proofs.YthokfbgpoffafaaGreatDoor
