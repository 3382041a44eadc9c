import Derived.Test.YteggfkekgdlecaaGreatDoorKeys
import Derived.BigQuiet
import Derived.Deep.LoopGhost
namespace Go.Proofs.YteggfkekgdlecaaGreatDoor
open Go.RowKit
set_option linter.unusedVariables false

/-- The slice value v reads as the texts L. -/
def TRow (w : World) (v : Value) (L : List ByteArray) : Prop :=
  (L = [] ∧ ∃ ao cap, v = .slice ao 0 cap) ∨
  (∃ b off cap, v = .slice (some ⟨b, off, none⟩) L.length cap ∧ b < w.heap.size ∧ (L.length ≤ cap ∧ cap ≤ maxLen) ∧ ∀ j, j < L.length → w.cell? ⟨b, off + j, none⟩ = some (.string (L.getD j ByteArray.empty)))
theorem TRow.form {w : World} {v : Value} {L : List ByteArray} (h : TRow w v L) : ∃ ao cap, v = .slice ao L.length cap := by
  rcases h with ⟨rfl, ao, cap, rfl⟩ | ⟨b, off, cap, rfl, _⟩
  · exact ⟨ao, cap, rfl⟩
  · exact ⟨_, cap, rfl⟩
theorem TRow.below {w w' : World} {v : Value} {L : List ByteArray} (h : TRow w v L) (hb : Below w.heap.size w w') : TRow w' v L := by
  rcases h with h | ⟨b, off, cap, e, hlt, hcap, hc⟩
  · exact Or.inl h
  · exact Or.inr ⟨b, off, cap, e, Nat.lt_of_lt_of_le hlt hb.size, hcap, fun j hj => (hb.cell (p := ⟨b, off + j, none⟩) hlt).trans (hc j hj)⟩
theorem TRow.cells {w : World} {v : Value} {L : List ByteArray} (h : TRow w v L) : ∃ ao cap, v = .slice ao L.length cap ∧ ∀ j, j < L.length → ∃ b off, ao = some ⟨b, off, none⟩ ∧ b < w.heap.size ∧ w.cell? ⟨b, off + j, none⟩ = some (.string (L.getD j ByteArray.empty)) := by
  rcases h with ⟨rfl, ao, cap, rfl⟩ | ⟨b, off, cap, rfl, hb, _, hc⟩
  · exact ⟨ao, cap, rfl, fun j hj => by simp at hj⟩
  · exact ⟨_, cap, rfl, fun j hj => ⟨b, off, rfl, hb, hc j hj⟩⟩
theorem trow_of_owns {w : World} {base n : Nat} {v : Value} {L : List ByteArray} (h : w.ownsRow base 9 1 v n (L.map Value.string)) : TRow w v L := by
  obtain ⟨hl, h2⟩ := id h
  simp at hl
  subst hl
  rcases h2 with ⟨rfl, h0⟩ | ⟨g, cap, cur, rfl, hg, hh, hc1, hc2, r⟩
  · left
    exact ⟨by simpa using h0, none, 0, rfl⟩
  · right
    refine ⟨g, 0, cap, rfl, (Array.getElem?_eq_some_iff.1 hh).1, ⟨hc1, hc2⟩, fun j hj => ?_⟩
    have := h.cellAt j (by simpa using hj)
    rw [Nat.zero_add, this]
    simp [List.getD, hj]
theorem infoStr : (Tryz.prog.info? 9).map (fun i => (i.zero, i.size, i.bytes)) = some (some (.string ByteArray.empty), 1, 16) := by kernel_rfl
/-- One store of a loop that fills a row of texts of its own. -/
theorem fill_stepT {w wr : World} {base B g n cap k : Nat} {f : Nat → ByteArray} {x : ByteArray} {zs : List ByteArray} (hx : x = f k) (hl : zs.length = n) (hk : k < n) (hm : ∀ j, j < k → zs.getD j ByteArray.empty = f j)
    (hown : wr.ownsRow base 9 1 (.slice (some ⟨g, 0, none⟩) n cap) n (zs.map Value.string)) (hb : Below B w wr) (hg : B ≤ g) :
    ∃ ys : List ByteArray, ys.length = n ∧ (∀ j, j < k + 1 → ys.getD j ByteArray.empty = f j) ∧ (wr.setCell ⟨g, k, none⟩ (.string x)).ownsRow base 9 1 (.slice (some ⟨g, 0, none⟩) n cap) n (ys.map Value.string) ∧
      Below B w (wr.setCell ⟨g, k, none⟩ (.string x)) := by
  refine ⟨zs.set k x, by simp [hl], fun j hj => ?_, ?_, hb.setCell hg _⟩
  · by_cases e : j = k
    · subst e
      simp [List.getD, hl, hk, hx]
    · have := hm j (by omega)
      simp only [List.getD, List.getElem?_set] at this ⊢
      rw [if_neg (by omega)]
      exact this
  · have := (hown.stored k (.string x)).1
    rwa [← List.map_set] at this
theorem owns_cellT {w : World} {base g n cap k : Nat} {zs : List ByteArray} (hown : w.ownsRow base 9 1 (.slice (some ⟨g, 0, none⟩) n cap) n (zs.map Value.string)) (hl : zs.length = n) (hk : k < n) :
    w.cell? ⟨g, k, none⟩ = some (.string (zs.getD k ByteArray.empty)) := by
  have := hown.cellAt k (by omega)
  rw [this]
  simp [List.getD, hl, hk]
theorem tlist_eq {xs ys : List ByteArray} {n : Nat} (hx : xs.length = n) (hy : ys.length = n) (h : ∀ j, j < n → xs.getD j ByteArray.empty = ys.getD j ByteArray.empty) : xs = ys := by
  apply List.ext_getElem (by omega)
  intro i h1 h2
  have := h i (by omega)
  simpa [List.getD, h1, h2] using this
theorem made_zeroT {w' : World} {base g n : Nat} (h : w'.ownsRow base 9 1 (.slice (some ⟨g, 0, none⟩) n n) n (madeCells (Value.string ByteArray.empty).cells (n * 1)).toList) :
    w'.ownsRow base 9 1 (.slice (some ⟨g, 0, none⟩) n n) n ((List.replicate n ByteArray.empty).map Value.string) := by
  have : (madeCells (Value.string ByteArray.empty).cells (n * 1)).toList = (List.replicate n ByteArray.empty).map Value.string := by
    rw [show (Value.string ByteArray.empty).cells = #[Value.string ByteArray.empty] from rfl, toList_madeCells_one]
    simp
  rwa [this] at h
set_option maxHeartbeats 800000 in
theorem toStrs (v : Value) (L : List ByteArray) (w : World) (h : TRow w v L) (hn : L.length ≤ 1048576) :
    Calls Tryz.prog 27 #[v] w fun e w' => ∃ r, e = .returned r ∧ w'.ownsRow w.heap.size 9 1 r L.length (L.map Value.string) ∧ Below w.heap.size w w' := by
  obtain ⟨ao, cap, rfl, hcs⟩ := h.cells
  obtain ⟨n, en⟩ : ∃ n, n = L.length := ⟨_, rfl⟩
  rw [← en] at hn hcs ⊢
  have HC : Hid _ := And.intro hcs en
  clear hcs en h
  obtain ⟨i0, hi, hz0, hz1, hz2⟩ := info_parts infoStr
  go_enter Tryz.func27, Tryz.ntmps27
  go_wp2_with (at_make; refine wpList_make_full _ rfl _ _ 24 rfl w.heap.size 9 i0 (.string ByteArray.empty) 1 Tryz.underlying24 hi hz0 hz1 .i64 .i64 (n : Int) (n : Int) n rfl rfl rfl rfl (by rw [hz2]; omega) (by unfold maxLen; omega) (Nat.le_refl _) ?_; intro w1 hown hg)
  have hown0 : w1.ownsRow w.heap.size 9 1 (.slice (some ⟨w.heap.size, 0, none⟩) n n) n ((List.replicate n ByteArray.empty).map Value.string) := made_zeroT hown
  go_loopw [4] (fun i wr => ∃ k : Nat, k ≤ n ∧ i = .int .i64 k ∧ ∃ zs : List ByteArray, zs.length = n ∧ (∀ j, j < k → zs.getD j ByteArray.empty = L.getD j ByteArray.empty) ∧
      wr.ownsRow w.heap.size 9 1 (.slice (some ⟨w.heap.size, 0, none⟩) n n) n (zs.map Value.string) ∧ Below w.heap.size w wr) (fun i _ => n - (intOf i).toNat)
  case atStart =>
    exact ⟨0, Nat.zero_le _, rfl, List.replicate n ByteArray.empty, by simp, fun j h => by omega, hown0, (Below.refl _ _).grown hg (Nat.le_refl _) (by intro k hk; cases hk)⟩
  case round =>
    obtain ⟨k, hk, rfl, zs, hl, hm, hown', hb'⟩ := hrel
    by_cases hlt : k < n
    · obtain ⟨b, off, rfl, hbl, hc⟩ := HC.out.1 k hlt
      have c0 : wr.cell? ⟨b, off + k, none⟩ = some (.string (L.getD k ByteArray.empty)) := (hb'.cell (p := ⟨b, off + k, none⟩) hbl).trans hc
      have f1 := hown'.frozenAt k
      have c1 := owns_cellT hown' hl hlt
      obtain ⟨x, hx⟩ : ∃ x, x = L.getD k ByteArray.empty := ⟨_, rfl⟩
      have R := fill_stepT (x := x) (f := fun j => L.getD j ByteArray.empty) hx hl hlt hm hown' hb' (Nat.le_refl _)
      rw [← hx] at c0
      generalize zs.getD k ByteArray.empty = u at c1
      clear hl hm hown' hb' hown hg hx hown0 hc
      obtain ⟨ys, R⟩ := R
      have HR : Hid _ := R
      clear R
      go_wp2
      go_roundw
      case rel =>
        obtain ⟨r1, r2, r3, r4⟩ := HR.out
        exact ⟨k + 1, by omega, by go_num, ys, r1, r2, r3, r4⟩
      case measure => simp [intOf]; omega
    · have HR : Hid _ := And.intro hl (And.intro hm (And.intro hown' hb'))
      clear hl hm hown' hb' hown hg hown0
      go_wp2
      go_ret
      obtain rfl : k = n := by omega
      obtain ⟨r1, r2, r3, r4⟩ := HR.out
      obtain rfl : zs = L := tlist_eq r1 HC.out.2.symm r2
      exact ⟨_, rfl, r3, r4⟩
set_option maxHeartbeats 800000 in
theorem eqStrs_same (va vb : Value) (L : List ByteArray) (w : World) (ha : TRow w va L) (hb : TRow w vb L) (hn : L.length ≤ 1048576) :
    Calls Tryz.prog 36 #[va, vb] w fun e w' => e = .returned (.bool true) ∧ ∃ n, w' = w.drewN n := by
  obtain ⟨ao, ca, rfl, hca⟩ := ha.cells
  obtain ⟨bo, cb, rfl, hcb⟩ := hb.cells
  obtain ⟨n, en⟩ : ∃ n, n = L.length := ⟨_, rfl⟩
  rw [← en] at hn hca hcb ⊢
  have ee : ((n : Int) != (n : Int)) = false := by simp
  have HC : Hid _ := And.intro hca hcb
  clear hca hcb en ha hb
  go_enter Tryz.func36, Tryz.ntmps36
  go_wp2
  go_loopw [5] (fun i wr => ∃ k m : Nat, k ≤ n ∧ i = .int .i64 k ∧ wr = w.drewN m) (fun i _ => n - (intOf i).toNat)
  case atStart => exact ⟨0, 0, Nat.zero_le _, rfl, rfl⟩
  case round =>
    obtain ⟨k, m, hk, rfl, rfl⟩ := hrel
    by_cases hlt : k < n
    · obtain ⟨b, off, rfl, _, c1⟩ := HC.out.1 k hlt
      obtain ⟨b2, off2, rfl, _, c2⟩ := HC.out.2 k hlt
      obtain ⟨x, hx⟩ : ∃ x, x = L.getD k ByteArray.empty := ⟨_, rfl⟩
      rw [← hx] at c1 c2
      clear hx
      have hx9 : (x == x) = true := by show (x.data == x.data) = true; exact beq_self_eq_true _
      have ht : (x != x) = false := by simp [bne, hx9]
      go_wp2
      go_quiet (fail)
      go_wp2
      go_roundw
      case rel => exact ⟨k + 1, _, by omega, by go_num, rfl⟩
      case measure => simp [intOf]; omega
    · go_wp2
      go_ret
      exact ⟨rfl, _, rfl⟩
end Go.Proofs.YteggfkekgdlecaaGreatDoor
