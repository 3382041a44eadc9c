import Derived.Test.YtjikdecfampbiaaStirC
import Derived.Test.YtjikdecfampbiaaDigits
import Derived.Deep.RegionWith
import Derived.Deep.CutRange
namespace Go.Proofs.Ytjikdecfampbiaa
open Go.RowKit
set_option linter.unusedVariables false

def dig0 : S4 := ⟨1779033703, 3144134277, 1013904242, 2773480762⟩
theorem dig0_ok : dig0.ok := by unfold S4.ok U32 dig0; decide
/-- The four numbers of the digest of a key and data, and its bytes. -/
def digS (ks ds : List Int) : S4 := stirL (stirL (stirL (stirL (stirL dig0 (be (ks.length : Int) 4)) ks) ds) (be (ds.length : Int) 4)) (List.replicate 16 165)
def digV (ks ds : List Int) : List Int := be (digS ks ds).a 4 ++ be (digS ks ds).b 4 ++ be (digS ks ds).c 4 ++ be (digS ks ds).d 4
theorem digV_length (ks ds : List Int) : (digV ks ds).length = 16 := by simp [digV, be_length]
theorem be_bytes (v : Int) (n : Nat) : Bytes (be v n) := by
  induction n generalizing v with
  | zero => intro x hx; simp [be] at hx
  | succ n ih =>
    intro x hx
    simp only [be, List.mem_append, List.mem_singleton] at hx
    rcases hx with hx | rfl
    · exact ih _ x hx
    · omega
theorem bytes_append {xs ys : List Int} (hx : Bytes xs) (hy : Bytes ys) : Bytes (xs ++ ys) := by
  intro x h
  rcases List.mem_append.1 h with h | h
  · exact hx x h
  · exact hy x h
theorem digV_bytes (ks ds : List Int) : Bytes (digV ks ds) := bytes_append (bytes_append (bytes_append (be_bytes _ _) (be_bytes _ _)) (be_bytes _ _)) (be_bytes _ _)

theorem pc_one (zs : List Int) (k : IntKind) : ∀ u, u ∈ zs.map (Value.int k) → u.oneCell' = true := by
  intro u hu
  obtain ⟨z, _, rfl⟩ := List.mem_map.1 hu
  rfl
theorem pc_cells {w : World} {base e g m cap : Nat} {zs : List Int} (h : w.ownsRow base e 1 (.slice (some ⟨g, 0, none⟩) m cap) m (zs.map (Value.int .u8))) :
    ∀ (j : Nat) (u : Value), (zs.map (Value.int .u8))[j]? = some u → w.cell? ((⟨g, 0, none⟩ : Addr).add j) = some u := by
  intro j u hj
  have hl : (zs.map (Value.int .u8)).length = m * 1 := h.1
  have hlt : j < m * 1 := by
    rw [← hl]
    exact (List.getElem?_eq_some_iff.1 hj).1
  have := h.cellAt j hlt
  rw [Go.WideShapes.add_plain, Nat.zero_add, this]
  exact hj
end Go.Proofs.Ytjikdecfampbiaa
