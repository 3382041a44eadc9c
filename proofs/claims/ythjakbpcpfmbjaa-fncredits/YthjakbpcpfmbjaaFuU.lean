import Derived.Test.YthjakbpcpfmbjaaFuT
import Derived.Test.YthjakbpcpfmbjaaFlApp
namespace Go.Proofs.Ythjakbpcpfmbjaa
open Go.RowKit
set_option linter.unusedVariables false
set_option linter.unusedSimpArgs false

set_option maxRecDepth 20000 in
set_option maxHeartbeats 2000000 in
theorem renewI (p : Nat) (wn s gr cm rd td : Int) (w : World) (h : w.heap[p]? = some (.cells #[.int .i64 wn, .int .i64 s, .int .i64 gr, .int .i64 cm, .int .i64 rd, .int .i64 td] 96 (0, 0))) (hr : 0 ≤ rd ∧ rd ≤ 1099511627776) (ht : 0 ≤ td ∧ td ≤ 1099511627776) (hn : 1 ≤ wn ∧ wn ≤ 16384) :
    Calls Try.prog 57 #[.pointer (some ⟨p, 0, none⟩)] w fun e w' => e = .returned (.bool (!decide (tdV wn rd td = td))) ∧ ∃ q, w' = (w.drewN q).setCell ⟨p, 5, none⟩ (.int .i64 (tdV wn rd td)) := by
  have c0 : w.cell? ⟨p, 0, none⟩ = some (.int .i64 wn) := bk_cell h 0
  have c4 : w.cell? ⟨p, 4, none⟩ = some (.int .i64 rd) := bk_cell h 4
  have c5 : w.cell? ⟨p, 5, none⟩ = some (.int .i64 td) := bk_cell h 5
  have f5 : w.frozen? ⟨p, 5, none⟩ = false := bk_free h 5
  have CN := fun u => implCN rd wn td u
  rw [cnV_tdV hr ht hn] at CN
  obtain ⟨t', et⟩ : ∃ x, x = tdV wn rd td := ⟨_, rfl⟩
  rw [← et] at CN ⊢
  have eb : (t' != td) = !decide (t' = td) := by by_cases e : t' = td <;> simp [e]
  rw [← eb]
  have HC : Hid _ := And.intro CN True.intro
  clear CN h hr ht hn et eb
  go_enter Try.func57, Try.ntmps57
  go_wp2_with fail
  go_region_with (first | (go_at_call 58; refine (HC.out.1 _).mono ?_; rintro e w2 ⟨rfl, hw2⟩; subst hw2))
  all_goals
    go_wp2
    go_ret
    exact ⟨rfl, 1, rfl⟩
/-- A frame that bears numbers alone. -/
def frC (x : Int × Int × Int) : List Value := [.int .i64 x.1, .int .i64 x.2.1, .int .i64 x.2.2, .int .i64 0, .bool false, .slice none 0 0, .slice none 0 0, .slice none 0 0]
theorem frC_flat (L : List (Int × Int × Int)) : FlatK 8 (L.map frC) := fun x hx => by
  obtain ⟨y, _, rfl⟩ := List.mem_map.1 hx
  refine ⟨rfl, fun v hv => ?_⟩
  unfold frC at hv
  simp only [List.mem_cons, List.not_mem_nil, or_false] at hv
  rcases hv with rfl | rfl | rfl | rfl | rfl | rfl | rfl | rfl <;> rfl
theorem infoFrC : (Try.prog.info? 38).map (fun i => (i.zero, i.size, i.bytes)) = some (some (.agg #[.int .i64 0, .int .i64 0, .int .i64 0, .int .i64 0, .bool false, .slice none 0 0, .slice none 0 0, .slice none 0 0]), 8, 112) := by kernel_rfl
theorem GOwns.lit1 (T : TypeId) (K : Nat) (w : World) (base : Nat) (cs : List Value) (hK : cs.length = K) (h1 : ∀ v ∈ cs, v.oneCell' = true) (hb : base ≤ w.heap.size) : GOwns T K (w.alloc (.cells cs.toArray T)) base (.slice (some ⟨w.heap.size, 0, none⟩) 1 1) [cs] := by
  refine GOwns.ofFlat (fun x hx => by rw [List.mem_singleton.1 hx]; exact ⟨hK, h1⟩) ?_
  have e : [cs].flatten = cs.toArray.toList := by simp
  rw [e]
  exact World.ownsRow_lit w cs.toArray 1 hb (by decide) (by simp [hK])
end Go.Proofs.Ythjakbpcpfmbjaa
