import Derived.Test.YtkjfpgdnhdnceabDoorStr
namespace Go.Proofs.YtkjfpgdnhdnceabDoor
open Go.RowKit
set_option linter.unusedVariables false

theorem sameC (va vb : Value) (xs ys : List Int) (ba bb n m : Nat) (w : World) (ha : w.ownsRow ba 5 1 va n (xs.map (Value.int .u8))) (hb : w.ownsRow bb 5 1 vb m (ys.map (Value.int .u8))) (hx : Bytes xs) (hy : Bytes ys) (he : xs = ys) :
    Calls Tryd.prog 7 #[va, vb] w fun e w' => e = .returned (.bool true) ∧ w' = w := by
  have c1 := conv_own (P := Tryd.prog) Tryd.underlying22 Tryd.underlying5 Tryd.underlying9 ha
  have c2 := conv_own (P := Tryd.prog) Tryd.underlying22 Tryd.underlying5 Tryd.underlying9 hb
  rw [← he] at c2
  clear ha hb hx hy he
  generalize strOfNums xs = s at c1 c2
  have ht : (s.toList == s.toList) = true := by simp
  go_enter Tryd.func7, Tryd.ntmps7
  go_wp2
  go_ret
  exact ⟨rfl, rfl⟩

theorem infoB : (Tryd.prog.info? 5).map (fun i => (i.zero, i.size, i.bytes)) = some (some (.int .u8 0), 1, 1) := by kernel_rfl

set_option maxHeartbeats 400000 in
theorem copiedC (g off n cap : Nat) (xs : List Int) (w : World) (hl : xs.length = n) (hn : n ≤ 1048576) (hg : n = 0 ∨ g < w.heap.size) (hc : ∀ j, j < n → w.cell? ⟨g, off + j, none⟩ = some (.int .u8 (xs.getD j 0))) :
    Calls Tryd.prog 9 #[.slice (some ⟨g, off, none⟩) n cap] w fun e w' => ∃ r, e = .returned r ∧ w'.ownsRow w.heap.size 5 1 r n (xs.map (Value.int .u8)) ∧ Below w.heap.size w w' := by
  obtain ⟨i0, hi, hz0, hz1, hz2⟩ := info_parts infoB
  have hnews : ∀ (j : Nat) (u : Value), (xs.map (Value.int .u8))[j]? = some u → (w.alloc (.cells #[] 5)).cell? ((⟨g, off, none⟩ : Addr).add j) = some u := by
    intro j u hj
    have hlt : j < n := by
      rw [← hl]
      have := (List.getElem?_eq_some_iff.1 hj).1
      simpa using this
    have hgl : g < w.heap.size := by omega
    have hb : Below w.heap.size w (w.alloc (.cells #[] 5)) := (Below.refl _ _).alloc (Nat.le_refl _) _
    rw [Go.WideShapes.add_plain]
    rw [(hb.cell (p := ⟨g, off + j, none⟩) hgl), hc j hlt]
    rw [List.getElem?_map, List.getElem?_eq_getElem (by omega)] at hj
    simp at hj
    rw [← hj]
    simp [List.getD, show j < xs.length by omega]
  have hone : ∀ u, u ∈ xs.map (Value.int .u8) → u.oneCell' = true := by
    intro u hu
    obtain ⟨z, _, rfl⟩ := List.mem_map.1 hu
    rfl
  have hlen : (xs.map (Value.int .u8)).length = n * 1 := by simp [hl]
  clear hc
  have HN : Hid _ := And.intro hnews (And.intro hone hlen)
  clear hnews hone hlen
  go_enter Tryd.func9, Tryd.ntmps9
  go_wp2_with (at_builtin; refine wpList_append_own _ rfl _ _ 22 rfl w.heap.size 5 i0 (.int .u8 0) 1 1 Tryd.underlying22 hi hz0 hz1 hz2 rfl (by decide) (.slice (some ⟨w.heap.size, 0, none⟩) 0 0) 0 [] rfl (World.ownsRow_lit w #[] 0 (Nat.le_refl _) (by decide) rfl) ⟨g, off, none⟩ n cap (xs.map (Value.int .u8)) rfl HN.out.2.2 HN.out.1 HN.out.2.1 (by unfold maxLen; omega) (by omega) (by simp) ?_; intro v' w2 hown2 hgrow hnil)
  have R : w2.ownsRow w.heap.size 5 1 v' n (xs.map (Value.int .u8)) := by simpa using hown2
  have B : Below w.heap.size w w2 := ((Below.refl _ _).alloc (Nat.le_refl _) _).grown hgrow (by simp) (by intro k hk; simp [Value.ownBlock] at hk; omega)
  have HR : Hid _ := And.intro R B
  clear R B hown2 hgrow hnil
  go_wp2
  go_ret
  exact ⟨_, rfl, HR.out.1, HR.out.2⟩
end Go.Proofs.YtkjfpgdnhdnceabDoor
