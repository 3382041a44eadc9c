import Derived.Test.YtdjflbanbhhniaaDoorMem
import Derived.Lib.BufferWrite
import Derived.Lib.UnsafeStr
import Derived.Laws.MakeOwn
namespace Go.Proofs.YtdjflbanbhhniaaDoor
open Go.RowKit
set_option linter.unusedVariables false

theorem infoU8c : (Tryd.prog.info? 5).map (fun i => (i.zero, i.size, i.bytes)) = some (some (.int .u8 0), 1, 1) := by kernel_rfl
/-- What a copy of a text that is not empty does, step by step: room is made, the bytes go over, and the room becomes a text. -/
theorem clone_runs (s : ByteArray) (w : World) (h0 : 0 < s.size) (h : s.size ≤ 1048576) :
    ∃ (M : Array Value) (w2 w3 : World),
      (∀ W : World, (Instr.makeSlice 64 (.int .i64 (s.size : Int)) (.int .i64 (s.size : Int))).run Tryd.prog W = .ok (.slice (some ⟨W.heap.size, 0, none⟩) s.size s.size) (W.alloc (.cells M 5))) ∧
      (Builtin.copy_ #[64, 9] 3 #[.slice (some ⟨w.heap.size, 0, none⟩) s.size s.size, .string s]).run Tryd.prog (w.alloc (.cells M 5)) = .ok (goInt s.size) w2 ∧
      (Builtin.unsafeString_ #[71, 3] 9 #[.pointer (some ⟨w.heap.size, 0, none⟩), .int .i64 s.size]).run Tryd.prog w2 = .ok (.string s) w3 ∧
      Below w.heap.size w w3 := by
  obtain ⟨i, hi, hz, hsz, hby⟩ := info_parts infoU8c
  have one : (Tryd.prog.info? 5).map (·.size) = some 1 := by rw [hi]; simp [hsz]
  have cell1 : Tryd.prog.cellsOf 5 = 1 := by kernel_rfl
  have len : s.data.toList.length = s.size := (Lib.size_eq s).symm
  obtain ⟨M, eM⟩ : ∃ M, M = madeCells (Value.int .u8 0).cells s.size := ⟨_, rfl⟩
  have mk : ∀ W : World, (Instr.makeSlice 64 (.int .i64 (s.size : Int)) (.int .i64 (s.size : Int))).run Tryd.prog W = .ok (.slice (some ⟨W.heap.size, 0, none⟩) s.size s.size) (W.alloc (.cells M 5)) := by
    intro W
    have r := run_make (P := Tryd.prog) W 64 5 i (.int .u8 0) Tryd.underlying64 hi hz .i64 .i64 (s.size : Int) (s.size : Int) (by omega) (Int.le_refl _) (by rw [hby]; omega) (by omega)
    rw [hsz] at r
    rw [eM]
    simpa using r
  have zM : M.size = s.size := by rw [eM, size_madeCells]
  have new := (MapKept.heap_alloc w (.cells M 5)).1
  have cp := Lib.run_copy_row_string (P := Tryd.prog) (w.alloc (.cells M 5)) 64 9 3 5 w.heap.size 0 s.size s.size s M 5 Tryd.underlying64 one new (Nat.le_refl _) (by omega)
  have all : (M.toList.take 0 ++ Lib.byteCells s.data.toList ++ M.toList.drop (0 + s.size)).toArray = (Lib.byteCells s.data.toList).toArray := by
    rw [List.take_zero, List.nil_append, List.drop_of_length_le (by rw [Array.length_toList]; omega), List.append_nil]
  rw [all] at cp
  have row := setRow_heap (w.alloc (.cells M 5)) w.heap.size M (Lib.byteCells s.data.toList).toArray 5 (0, 0) new
  have tx := Lib.run_unsafeString_row (P := Tryd.prog) ((w.alloc (.cells M 5)).setRow w.heap.size (Lib.byteCells s.data.toList).toArray) 71 3 9 5 Tryd.underlying71 cell1 w.heap.size s.size
    (by unfold World.shape?; rw [row]; simp [Lib.byteCells_length, len]) s.data.toList (fun e => by rw [e] at len; simp at len; omega) (by omega) (by omega)
    (fun j x hx => Lib.cells_of_row row s.size j _ (by
      have hj : j < s.data.toList.length := (List.getElem?_eq_some_iff.1 hx).1
      rw [List.take_of_length_le (by simp [Lib.byteCells_length, len])]
      simp only [Lib.byteCells, List.getElem?_map, hx, Option.map_some]))
  rw [len] at tx
  have b1 : Below w.heap.size w (w.alloc (.cells M 5)) := (Below.refl _ w).alloc (Nat.le_refl _) _
  have b2 : Below w.heap.size (w.alloc (.cells M 5)) ((w.alloc (.cells M 5)).setRow w.heap.size (Lib.byteCells s.data.toList).toArray) := ⟨rfl, rfl, rfl, by simp, fun k hk => setRow_other _ _ _ _ (by omega)⟩
  exact ⟨M, _, _, mk, cp, tx, Lib.below_freeze (b1.trans b2) (p := ⟨w.heap.size, 0, none⟩) (Nat.le_refl _) _⟩
theorem cloneL (s : ByteArray) (w : World) (h : s.size ≤ 1048576) : Calls Tryd.prog 41 #[.string s] w fun e w' => e = .returned (.string s) ∧ Below w.heap.size w w' := by
  by_cases h0 : s.size = 0
  · obtain rfl : s = ⟨#[]⟩ := ByteArray.ext (Array.eq_empty_of_size_eq_zero h0)
    go_enter Tryd.func41, Tryd.ntmps41
    go_wp2
    go_ret
    exact ⟨rfl, Below.refl _ _⟩
  · obtain ⟨M, w2, w3, r1, r2, r3, b⟩ := clone_runs s w (by omega) h
    have HB : Hid _ := And.intro b True.intro
    clear b
    have hz : ¬ (s.size : Int) = 0 := by omega
    have hne : ((s.size : Int) == 0) = false := by simpa using hz
    have hpos : 0 < s.size := by omega
    go_enter Tryd.func41, Tryd.ntmps41
    go_wp2
    go_ret
    exact ⟨rfl, HB.out.1⟩
theorem cloneC (s : ByteArray) (w : World) (h : s.size ≤ 1048576) : Calls Tryd.prog 29 #[.string s] w fun e w' => e = .returned (.string s) ∧ Below w.heap.size w w' := by
  have C := cloneL s w h
  have H : Hid _ := And.intro C True.intro
  clear C
  go_enter Tryd.func29, Tryd.ntmps29
  go_wp2_with (go_at_call 41; refine H.out.1.mono ?_; rintro e w1 ⟨rfl, b1⟩; have H1 : Hid _ := And.intro b1 True.intro; clear b1)
  go_ret
  exact ⟨rfl, H1.out.1⟩
end Go.Proofs.YtdjflbanbhhniaaDoor
