import Derived.Test.YtcoakpmfappnlaaFlatB
import Derived.Test.YtcoakpmfappnlaaFuY
import Derived.Test.YtcoakpmfappnlaaFlFlowOp
namespace Go.Proofs.Ytcoakpmfappnlaa
open Go.RowKit
set_option linter.unusedVariables false

def FO.c (e : FO) (u : Value) : List Value := [.int .i64 e.code, .int .i64 e.id, .int .i64 e.cnt, u]
/-- What FlowRun answers, as a slice holds it: each observation with its frames. -/
def NRow (w : World) (v : Value) (Y : List FO) : Prop :=
  ∃ U : Nat → Value, GRow 4 w v (zl FO.c Y U) ∧ ∀ j, j < Y.length → GRow 8 w (U j) ((Y.getD j default).fr.map frC)
/-- The same, of one's own: no two lists of frames share a block. -/
def NOwns (w : World) (base : Nat) (v : Value) (Y : List FO) : Prop :=
  ∃ U : Nat → Value, GOwns 43 4 w base v (zl FO.c Y U) ∧ (∀ j, j < Y.length → GOwns 87 8 w base (U j) ((Y.getD j default).fr.map frC)) ∧ (∀ (i j : Nat), i < j → j < Y.length → ∀ k, (U j).ownBlock = some k → some k ≠ (U i).ownBlock)
theorem NOwns.row {w : World} {base : Nat} {v : Value} {Y : List FO} (h : NOwns w base v Y) : NRow w v Y := by
  obtain ⟨U, g, r, _⟩ := h
  exact ⟨U, g.row, fun j hj => (r j hj).row⟩
theorem NRow.below {w w' : World} {v : Value} {Y : List FO} (h : NRow w v Y) (hb : Below w.heap.size w w') : NRow w' v Y := by
  obtain ⟨U, g, r⟩ := h
  exact ⟨U, g.below hb, fun j hj => (r j hj).below hb⟩
theorem NRow.form {w : World} {v : Value} {Y : List FO} (h : NRow w v Y) : ∃ ao cap, v = .slice ao Y.length cap := by
  obtain ⟨U, g, _⟩ := h
  have := g.form
  rwa [zl_length] at this
theorem NOwns.below {w w' : World} {base : Nat} {v : Value} {Y : List FO} (h : NOwns w base v Y) (hb : Below w.heap.size w w') : NOwns w' base v Y := by
  obtain ⟨U, g, r, a⟩ := h
  exact ⟨U, g.below hb, fun j hj => (r j hj).below hb, a⟩
theorem NOwns.mono {w : World} {base base' : Nat} {v : Value} {Y : List FO} (h : NOwns w base v Y) (hb : base' ≤ base) : NOwns w base' v Y := by
  obtain ⟨U, g, r, a⟩ := h
  exact ⟨U, g.mono hb, fun j hj => (r j hj).mono hb, a⟩
theorem NRow.at' {w : World} {v : Value} {Y : List FO} (h : NRow w v Y) (h0 : 0 < Y.length) :
    ∃ b off cap, v = .slice (some ⟨b, off, none⟩) Y.length cap ∧ b < w.heap.size ∧ ∃ U : Nat → Value, (∀ j, j < Y.length → ∀ f, f < 4 → w.cell? ⟨b, off + (j * 4 + f), none⟩ = (FO.c (Y.getD j default) (U j))[f]?) ∧ ∀ j, j < Y.length → GRow 8 w (U j) ((Y.getD j default).fr.map frC) := by
  obtain ⟨U, g, r⟩ := h
  obtain ⟨b, off, cap, rfl, hb, hc⟩ := g.at' (by rw [zl_length]; exact h0)
  rw [zl_length] at hc ⊢
  exact ⟨b, off, cap, rfl, hb, U, fun j hj f hf => by rw [← zl_at FO.c Y U j hj]; exact hc j hj f hf, r⟩
/-- The credit behind k operations. -/
def fstepO (F : FS) (m : FX) (o : SFlowOp) : FX × FO := fstep F m o.f0 o.f1 o.f2 o.f3
def frunP (F : FS) (R : List SFlowOp) : Nat → FX
  | 0 => fx0 F
  | k + 1 => (fstepO F (frunP F R k) (R.getD k default)).1
def fobsAt (F : FS) (R : List SFlowOp) (k : Nat) : FO := (fstepO F (frunP F R k) (R.getD k default)).2
theorem frunP_inv {F : FS} (hF : fsOK F = true) (R : List SFlowOp) : ∀ k, k ≤ 401 → FXI F k (frunP F R k)
  | 0, _ => FXI.zero hF
  | k + 1, hk => (frunP_inv hF R k (by omega)).step hF (by omega) _ _ _ _
/-- What FlowRun answers. -/
def flY (F : FS) (R : List SFlowOp) : List FO := if 400 < R.length ∨ fsOK F = false then [] else (List.range R.length).map (fobsAt F R)
def flC (F : FS) (R : List SFlowOp) : Int := if 400 < R.length then 4 else if fsOK F = false then 1 else 0
end Go.Proofs.Ytcoakpmfappnlaa
