import Derived.Test.YtiiefhpkkjocbakDoorLongS
import Derived.Test.YtiiefhpkkjocbakDoorDig
import Derived.Test.YtiiefhpkkjocbakDoorHead8
import Derived.Test.YtiiefhpkkjocbakDoorIConcat
import Derived.Lib.SlBytesConst
namespace Go.Proofs.YtiiefhpkkjocbakDoor
open Go.RowKit
set_option linter.unusedVariables false

def retryK : List Int := [114, 101, 116, 114, 121]
/-- The tag of a retry packet. -/
def retV (o p : List Int) : List Int := (digV retryK (((o.length : Int) :: o) ++ p)).take 8
theorem retV_length (o p : List Int) : (retV o p).length = 8 := by simp [retV, digV_length]
theorem retryK_bytes : Bytes retryK := by intro x hx; simp [retryK] at hx; omega
theorem bytes_cons {x : Int} {xs : List Int} (h0 : 0 ≤ x) (h1 : x < 256) (h : Bytes xs) : Bytes (x :: xs) := by
  intro y hy
  rcases List.mem_cons.1 hy with rfl | hy
  · exact ⟨h0, h1⟩
  · exact h y hy
theorem bytes_app {xs ys : List Int} (h : Bytes xs) (h2 : Bytes ys) : Bytes (xs ++ ys) := by
  intro y hy
  rcases List.mem_append.1 hy with hy | hy
  · exact h y hy
  · exact h2 y hy
theorem cut_cap {w : World} {base g cap n : Nat} {xs : List Value} (h : w.ownsRow base 5 1 (.slice (some ⟨g, 0, none⟩) n cap) n xs) : n ≤ cap ∧ cap ≤ 9223372036854775807 := by
  rcases h.2 with ⟨e, _⟩ | ⟨g', cap', cur, e, _, _, h1, h2, _⟩
  · cases e
  · cases e; unfold maxLen at h2; omega
theorem key_row {W : World} {p : Nat} (h : W.heap[p]? = some (.cells #[.int .u8 114, .int .u8 101, .int .u8 116, .int .u8 114, .int .u8 121] 5 (5, 6))) : Row W .u8 (.slice (some ⟨p, 0, none⟩) 5 5) retryK := by
  refine Or.inr ⟨p, 0, 5, rfl, (Array.getElem?_eq_some_iff.1 h).1, ⟨Nat.le_refl _, by unfold maxLen; decide⟩, fun j hj => ?_⟩
  rw [Nat.zero_add, blkS_cell h]
  rcases (show j = 0 ∨ j = 1 ∨ j = 2 ∨ j = 3 ∨ j = 4 by simp [retryK] at hj; omega) with rfl | rfl | rfl | rfl | rfl <;> rfl
theorem kconst (w : World) (C : Array Value) (n c : Nat) : (convert 22 22 (.slice (some ⟨w.heap.size, 0, none⟩) n c)).run Tryd.prog (w.alloc (.cells C 5)) = .ok (.slice (some ⟨w.heap.size, 0, none⟩) n c) (w.alloc (.cells C 5 (C.size, C.size + 1))) :=
  Lib.run_convert_bytes_const w 22 5 C n c Tryd.underlying22 Tryd.underlying5
set_option maxRecDepth 20000 in
set_option maxHeartbeats 2000000 in
theorem rtagC (ao ap : Option Addr) (n m po pp : Nat) (o p : List Int) (w : World) (ro : Row w .u8 (.slice ao n po) o) (rp : Row w .u8 (.slice ap m pp) p) (eo : o.length = n) (ep : p.length = m) (hn : n ≤ 8) (hm : m ≤ 4096) (bo : Bytes o) (bp : Bytes p) :
    Calls Tryd.prog 36 #[.slice ao n po, .slice ap m pp] w fun e w' => ∃ r, e = .returned r ∧ Row w' .u8 r (retV o p) ∧ Below w.heap.size w w' := by
  have e1 := wrap8 n hn
  have kc := kconst
  have b0 := (Below.refl w.heap.size w).alloc (Nat.le_refl _) (.cells #[.int .u8 (n : Int)] 5)
  have o0 : (w.alloc (.cells #[.int .u8 (n : Int)] 5)).ownsRow w.heap.size 5 1 (.slice (some ⟨w.heap.size, 0, none⟩) 1 1) 1 (([(n : Int)]).map (Value.int .u8)) := World.ownsRow_lit _ #[.int .u8 (n : Int)] 1 (Nat.le_refl _) (by decide) rfl
  have HH : Hid _ := And.intro ro (And.intro rp (And.intro eo (And.intro ep (And.intro o0 (And.intro b0 (And.intro bp (show Bytes ((n : Int) :: o) from bytes_cons (by omega) (by omega) bo)))))))
  clear ro rp eo ep b0 o0 bo bp
  go_enter Tryd.func36, Tryd.ntmps36
  go_wp2_with (first
    | (at_builtin; refine wpList_append_row rfl (.tmp 9) (.tmp 10) rfl w.heap.size _ 1 [(n : Int)] rfl HH.out.2.2.2.2.1 _ o rfl (HH.out.1.below HH.out.2.2.2.2.2.1) (by rw [HH.out.2.2.1]; omega) HH.out.2.2.2.2.2.1.size ?_; intro q2 w2 o2 g2; have H2 : Hid _ := And.intro o2 (HH.out.2.2.2.2.2.1.grown g2 HH.out.2.2.2.2.2.1.size (fun q hq => (HH.out.2.2.2.2.1.lt q hq).1)); have P2 : Hid _ := And.intro (H2.out.1.alloc (.cells #[.int .u8 114, .int .u8 101, .int .u8 116, .int .u8 114, .int .u8 121] 5 (5, 6))) (H2.out.2.alloc H2.out.2.size (.cells #[.int .u8 114, .int .u8 101, .int .u8 116, .int .u8 114, .int .u8 121] 5 (5, 6))); clear o2 g2)
    | (at_builtin; refine wpList_append_row rfl (.tmp 14) (.tmp 15) rfl w.heap.size q2 _ _ rfl P2.out.1 _ p rfl (HH.out.2.1.below P2.out.2) (by rw [HH.out.2.2.1, HH.out.2.2.2.1]; omega) P2.out.2.size ?_; intro q3 w3 o3 g3; have K3 : Hid (w3.heap[w2.heap.size]? = some (.cells #[.int .u8 114, .int .u8 101, .int .u8 116, .int .u8 114, .int .u8 121] 5 (5, 6))) := (g3.block w2.heap.size (by simp) (fun e => by have := (H2.out.1.lt w2.heap.size e.symm).2; omega)).trans (MapKept.heap_alloc w2 _).1; have H3 : Hid _ := And.intro o3 (P2.out.2.grown g3 P2.out.2.size (fun q hq => (P2.out.1.lt q hq).1)); clear o3 g3))
  go_at_call 52
  have ed : ([(n : Int)] ++ o) ++ p = ((o.length : Int) :: o) ++ p := by rw [HH.out.2.2.1]; rfl
  have rq := row_of_owns H3.out.1
  rw [ed] at rq
  refine (specDigest _ _ retryK (((o.length : Int) :: o) ++ p) _ (key_row K3.out) rq retryK_bytes (by have := HH.out.2.2.2.2.2.2.2; rw [← HH.out.2.2.1] at this; exact bytes_app this HH.out.2.2.2.2.2.2.1) (by decide) (by have h1 := HH.out.2.2.1; have h2 := HH.out.2.2.2.1; simp; omega)).mono ?_
  rintro e w4 ⟨q4, rfl, o4, b4⟩
  obtain ⟨g4, p4, rfl, _, _⟩ := owns_shape o4 (by decide)
  obtain ⟨hc1, hc2⟩ := cut_cap o4
  have hc8 : (8 : Int) ≤ (p4 : Int) := by omega
  have H4 : Hid _ := And.intro (row_of_owns (owns_take (m := 8) o4 (by decide))) (H3.out.2.trans (b4.mono H3.out.2.size))
  clear o4 b4 ed rq
  go_wp2
  go_ret
  exact ⟨_, rfl, H4.out.1, H4.out.2⟩
end Go.Proofs.YtiiefhpkkjocbakDoor
