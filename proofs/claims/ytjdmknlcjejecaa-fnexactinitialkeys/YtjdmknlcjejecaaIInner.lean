import Derived.Test.YtjdmknlcjejecaaIKeysOK
import Derived.Test.YtjdmknlcjejecaaIDerive
import Derived.Test.YtjdmknlcjejecaaKeysOf
namespace Go.Proofs.Ytjdmknlcjejecaa
open Go.RowKit
set_option linter.unusedVariables false

/-- The inner keys, cell by cell: secret, key, mask, iv. -/
def inL (k : K4) : List Int := k.a ++ k.b ++ k.d ++ k.c
theorem inL_length (k : K4) (h : kok k) : (inL k).length = 56 := by
  obtain ⟨h0, h1, h2, h3⟩ := h
  simp [inL, h0, h1, h2, h3]
def inS (k : K4) : Nat → List Int
  | 0 => List.replicate 56 0
  | 1 => k.a ++ List.replicate 40 0
  | 2 => k.a ++ k.b ++ List.replicate 24 0
  | 3 => k.a ++ k.b ++ k.d ++ List.replicate 8 0
  | _ => inL k
theorem splice_fill (A X : List Int) (r off m : Nat) (hA : A.length = off) (hX : X.length = m) : splice (A ++ List.replicate (m + r) 0) off (X.take m) = A ++ X ++ List.replicate r 0 := by
  unfold splice
  rw [List.take_left' hA, List.take_of_length_le (Nat.le_of_eq hX), hX, List.drop_append, hA, List.drop_of_length_le (by omega)]
  simp [List.append_assoc, List.drop_replicate, show off + m - off = m by omega]
theorem inS_0 (k : K4) (h : kok k) : splice (inS k 0) 0 (k.a.take 16) = inS k 1 := by
  have := splice_fill [] k.a 40 0 16 rfl h.1
  simpa [inS] using this
theorem inS_1 (k : K4) (h : kok k) : splice (inS k 1) 16 (k.b.take 16) = inS k 2 := splice_fill k.a k.b 24 16 16 h.1 h.2.1
theorem inS_2 (k : K4) (h : kok k) : splice (inS k 2) 32 (k.d.take 16) = inS k 3 := splice_fill (k.a ++ k.b) k.d 8 32 16 (by simp [h.1, h.2.1]) h.2.2.2
theorem inS_3 (k : K4) (h : kok k) : splice (inS k 3) 48 (k.c.take 8) = inS k 4 := by
  have := splice_fill (k.a ++ k.b ++ k.d) k.c 0 48 8 (by simp [h.1, h.2.1, h.2.2.2]) h.2.2.1
  simpa [inS, inL] using this
theorem inS_length (k : K4) (h : kok k) (j : Nat) : (inS k j).length = 56 := by
  obtain ⟨h0, h1, h2, h3⟩ := h
  match j with
  | 0 => simp [inS]
  | 1 => simp [inS, h0]
  | 2 => simp [inS, h0, h1]
  | 3 => simp [inS, h0, h1, h3]
  | n + 4 => simp [inS, inL, h0, h1, h2, h3]
theorem infoI56 : (Try.prog.info? 60).map (·.size) = some 56 := by kernel_rfl
theorem infoIs (xs : List Int) (h : xs.length = 56) : (Try.prog.info? 60).map (·.size) = some (u8s xs).toArray.size := by rw [infoI56]; simp [u8s_length, h]
abbrev Z56 : Obj := .cells (u8s (List.replicate 56 0)).toArray 60 (0, 0)
theorem book_new3 (w : World) (o1 o2 o3 : Obj) : Book (((w.alloc o1).alloc o2).alloc o3) [(w.heap.size + 2, o3), (w.heap.size + 1, o2), (w.heap.size, o1)] := by
  obtain ⟨h1, h2, h3⟩ := bk_new3 w o1 o2 o3
  refine ⟨fun b o hm => ?_⟩
  simp only [List.mem_cons, Prod.mk.injEq, List.not_mem_nil, or_false] at hm
  rcases hm with ⟨rfl, rfl⟩ | ⟨rfl, rfl⟩ | ⟨rfl, rfl⟩
  · exact h3
  · exact h2
  · exact h1
theorem below3 (w : World) (o1 o2 o3 : Obj) : Below w.heap.size w (((w.alloc o1).alloc o2).alloc o3) := (((Below.refl _ _).alloc (Nat.le_refl _) _).alloc (by simp) _).alloc (by simp; omega) _

theorem results_row_tmp {P : Program} {fn : Func} {p q : Tmp} {ty : TypeId} (h : fn.results = #[.cell p ty, .tmp q]) (tmps : Array Value) (w : World) (g : Nat) (t : TypeId) (cs : Array Value) (fr : Nat × Nat) (d : TypeDesc) (u : Value)
    (hp : tmps.getD p undef = .pointer (some ⟨g, 0, none⟩)) (hq : tmps.getD q undef = u) (hg : w.heap[g]? = some (.cells cs t fr))
    (hu : P.underlying ty = some d) (hd : (match d with | .struct _ | .array _ _ => true | _ => false) = true) (hi : (P.info? ty).map (·.size) = some cs.size) :
    (results fn tmps).run P w = .ok (.tuple #[.agg cs, u]) w := by
  have hp' : tmps[p]?.getD undef = .pointer (some ⟨g, 0, none⟩) := by simpa using hp
  have hq' : tmps[q]?.getD undef = u := by simpa using hq
  simp [results, h, hp', hq', asAddr, run_loadVar_row w g t ty cs fr d hg hu hd hi]

/-- innerOf's blocks behind j parts. -/
abbrev BkI (h : Nat) (k : K4) (j : Nat) (a0 a1 a2 a3 : Option Addr) (p0 p1 p2 p3 n0 n1 n2 n3 : Nat) : List (Nat × Obj) :=
  [(h + 2, .cells (u8s (inS k j)).toArray 60 (0, 0)), (h + 1, Z56), (h, .cells #[.slice a0 n0 p0, .slice a1 n1 p1, .slice a2 n2 p2, .slice a3 n3 p3] 24 (0, 0))]

end Go.Proofs.Ytjdmknlcjejecaa
