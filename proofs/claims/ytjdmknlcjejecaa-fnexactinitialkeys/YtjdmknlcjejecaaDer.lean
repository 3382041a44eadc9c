import Derived.Test.YtjdmknlcjejecaaDig
import Derived.Laws.IdiomStrings
import Derived.ArgAppend
namespace Go.Proofs.Ytjdmknlcjejecaa
open Go.RowKit
set_option linter.unusedVariables false

/-- A text's bytes. -/
def lab (s : ByteArray) : List Int := s.data.toList.map fun b => (b.toNat : Int)
theorem lab_length (s : ByteArray) : (lab s).length = s.size := by unfold lab; rw [List.length_map, Array.length_toList]; rfl
theorem lab_bytes (s : ByteArray) : Bytes (lab s) := by
  intro x hx
  obtain ⟨b, _, rfl⟩ := List.mem_map.1 hx
  have := b.toNat_lt
  omega
/-- The first k blocks that are derived. -/
def blk (ss ls : List Int) : Nat → List Int
  | 0 => []
  | k + 1 => blk ss ls k ++ digV ss (ls ++ [(k : Int)])
theorem blk_length (ss ls : List Int) (k : Nat) : (blk ss ls k).length = 16 * k := by
  induction k with
  | zero => rfl
  | succ k ih => simp [blk, ih, digV_length]; omega
theorem blk_bytes (ss ls : List Int) (k : Nat) : Bytes (blk ss ls k) := by
  induction k with
  | zero => intro x hx; simp [blk] at hx
  | succ k ih => exact bytes_append ih (digV_bytes _ _)
theorem blk_take (ss ls : List Int) (n k m : Nat) (h : n ≤ 16 * k) : (blk ss ls (k + m)).take n = (blk ss ls k).take n := by
  induction m with
  | zero => rfl
  | succ m ih =>
    rw [← ih, ← Nat.add_assoc]
    show (blk ss ls (k + m) ++ _).take n = _
    rw [List.take_append_of_le_length (by rw [blk_length]; omega)]
def drvV (ss ls : List Int) (n : Nat) : List Int := (blk ss ls 4).take n
theorem drvV_length (ss ls : List Int) (n : Nat) (h : n ≤ 64) : (drvV ss ls n).length = n := by simp [drvV, blk_length]; omega
theorem drvV_bytes (ss ls : List Int) (n : Nat) : Bytes (drvV ss ls n) := fun x hx => blk_bytes ss ls 4 x (List.mem_of_mem_take hx)

theorem bytesRow_size (s : ByteArray) (C : Nat) (h : s.size ≤ C) : (bytesRow s C).size = C := by
  unfold bytesRow
  rw [Array.size_append, Array.size_map, Array.size_replicate]
  have : s.data.size = s.size := rfl
  omega
theorem lab_at (s : ByteArray) (C j : Nat) (hj : j < s.size) : (bytesRow s C)[j]? = some (.int .u8 ((lab s).getD j 0)) := by
  have hd : j < s.data.size := hj
  rw [bytesRow_at s C j hd]
  simp only [lab, List.getD, List.getElem?_map]
  rw [List.getElem?_eq_getElem (by simpa using hd)]
  simp

/-- 'append([]byte(label), x)': whatever room there is, the answer reads as the label's bytes and x. -/
theorem wpList_append_lab {ops : Array Oper} {rest : List Oper} {o : Oper} {a : Act} {Q : Exit → Act → World → Prop} (wr : World) (s : ByteArray) (C : Nat) (x : Int) (i0 : TypeInfo)
    (hgd : o.guard = none) (p q : Operand) (ho : o.op = .call { callee := .builtin .append, args := #[p, q], argTypes := #[22, 22] })
    (hi : Try.prog.info? 5 = some i0) (hz0 : i0.zero = some (.int .u8 0)) (hz1 : i0.size = 1) (hz2 : i0.bytes = 1)
    (hp : a.eval p = .slice (some ⟨wr.heap.size, 0, none⟩) s.size C) (hq : a.eval q = .slice (some ⟨wr.heap.size + 1, 0, none⟩) 1 1)
    (hs : s.size ≤ 4096) (hC : s.size ≤ C) (hC1 : C ≤ maxLen)
    (h : ∀ v' w', Row w' .u8 v' (lab s ++ [x]) → Below wr.heap.size wr w' → wpList Try.prog ops Q rest (a.put o.dst v') w') :
    wpList Try.prog ops Q (o :: rest) a ((wr.alloc (.cells (bytesRow s C) 5 ((bytesRow s C).size, (bytesRow s C).size + 1))).alloc (.cells #[.int .u8 x] 5)).drew := by
  obtain ⟨W, eW⟩ : ∃ W, W = ((wr.alloc (.cells (bytesRow s C) 5 ((bytesRow s C).size, (bytesRow s C).size + 1))).alloc (.cells #[.int .u8 x] 5)).drew := ⟨_, rfl⟩
  have hb0 : W.heap[wr.heap.size]? = some (.cells (bytesRow s C) 5 ((bytesRow s C).size, (bytesRow s C).size + 1)) := by rw [eW]; exact (two_newS wr _ _).1
  have hb1 : W.heap[wr.heap.size + 1]? = some (.cells #[.int .u8 x] 5 (0, 0)) := by rw [eW]; exact (two_newS wr _ _).2
  have hbel : Below wr.heap.size wr W := by
    have := ((Below.refl wr.heap.size wr).alloc (Nat.le_refl _) (.cells (bytesRow s C) 5 ((bytesRow s C).size, (bytesRow s C).size + 1))).alloc (by simp) (.cells #[.int .u8 x] 5)
    rw [eW]
    exact ⟨this.os, this.tape, this.output, this.size, this.block⟩
  rw [← eW]
  have hsz := bytesRow_size s C hC
  have c0 : ∀ j, j < s.size → W.cell? ⟨wr.heap.size, j, none⟩ = some (.int .u8 ((lab s).getD j 0)) := fun j hj => by rw [blkS_cell hb0]; exact lab_at s C j hj
  have cx : W.cell? ⟨wr.heap.size + 1, 0, none⟩ = some (.int .u8 x) := by rw [blkS_cell hb1]; rfl
  have hll : (lab s ++ [x]).length = s.size + 1 := by rw [List.length_append, lab_length]; rfl
  refine wpList_append_arg W hgd p q 22 ho 5 i0 (.int .u8 0) 1 1 Try.underlying22 hi hz0 hz1 hz2 rfl (by decide) wr.heap.size 0 s.size C ((lab s).map (Value.int .u8)) hp (by rw [List.length_map, lab_length]; omega) ?_ ⟨wr.heap.size + 1, 0, none⟩ 1 1 [.int .u8 x] hq rfl ?_ ?_ ?_ (by unfold maxLen; omega) (by omega) ?_ ?_
  · intro j u hj
    rw [List.getElem?_map] at hj
    have hlt : j < s.size := by
      rw [← lab_length s]
      cases hc : (lab s)[j]? with
      | none => rw [hc] at hj; simp at hj
      | some y => exact (List.getElem?_eq_some_iff.1 hc).1
    rw [Nat.zero_add, c0 j hlt]
    rw [List.getElem?_eq_getElem (by rw [lab_length]; exact hlt)] at hj
    simp only [Option.map_some, Option.some.injEq] at hj
    rw [← hj]
    simp [List.getD, lab_length, hlt]
  · intro j u hj
    match j, hj with
    | 0, hj => simp at hj; subst hj; rw [Go.WideShapes.add_plain]; exact cx
  · intro u hu
    simp at hu
    subst hu
    rfl
  · intro hroom j hj
    have hj0 : j = 0 := by simpa using hj
    subst hj0
    constructor
    · rw [blkS_cell hb0]
      rw [Array.getElem?_eq_getElem (by rw [hsz]; omega)]
      rfl
    · have : decide ((bytesRow s C).size ≤ 0 + s.size * 1 + 0) = false := by rw [hsz]; simp; omega
      simp only [World.frozen?, hb0, this, Bool.false_and]
  · intro hroom
    have e : W.setCells wr.heap.size (0 + s.size * 1) [.int .u8 x] = W.setCell ⟨wr.heap.size, s.size, none⟩ (.int .u8 x) := by
      rw [show 0 + s.size * 1 = s.size by omega]
      rfl
    rw [e]
    refine h _ _ ?_ (hbel.setCell (Nat.le_refl _) _)
    refine Or.inr ⟨wr.heap.size, 0, C, by rw [hll], ?_, by rw [hll]; exact ⟨hroom, hC1⟩, fun j hj => ?_⟩
    · have : wr.heap.size < W.heap.size := (Array.getElem?_eq_some_iff.1 hb0).1
      simpa [World.setCell] using this
    · rw [hll] at hj
      rw [Nat.zero_add, blkS_cell (blkS_setCell hb0 s.size (.int .u8 x))]
      rw [Array.getElem?_setIfInBounds]
      by_cases e : s.size = j
      · subst e
        rw [if_pos rfl, if_pos (by rw [hsz]; omega)]
        simp [List.getD, ← lab_length s]
      · rw [if_neg e, lab_at s C j (by omega)]
        have : j < (lab s).length := by rw [lab_length]; omega
        simp [List.getD, List.getElem?_append_left this]
  · intro hgr v' w' hown hg
    refine h v' w' ?_ ⟨hg.os.trans hbel.os, hg.tape.trans hbel.tape, hg.output.trans hbel.output, Nat.le_trans hbel.size hg.size, fun k hk => (hg.block k (Nat.lt_of_lt_of_le hk hbel.size) (by simp)).trans (hbel.block k hk)⟩
    have : w'.ownsRow W.heap.size 5 1 v' (s.size + 1) ((lab s ++ [x]).map (Value.int .u8)) := by rw [List.map_append]; exact hown
    exact row_of_owns this

theorem specDer_bad (ao : Option Addr) (m cap : Nat) (s : ByteArray) (n : Int) (w : World) (hm : m ≤ 9223372036854775807) (hs : s.size ≤ 9223372036854775807) (h : ¬ (m = 16 ∧ s.size ≤ 32 ∧ 1 ≤ n ∧ n ≤ 64)) :
    Calls Try.prog 16 #[.slice ao m cap, .string s, .int .i64 n] w fun e w' => ∃ r, e = .returned r ∧ w'.ownsRow w.heap.size 5 1 r 0 (([] : List Int).map (Value.int .u8)) ∧ Below w.heap.size w w' := by
  by_cases a : m = 16
  · subst a
    by_cases b : s.size ≤ 32
    · by_cases c : 1 ≤ n
      · have d : 64 < n := by omega
        clear h
        go_enter Try.func16, Try.ntmps16
        go_wp2
        go_ret
        exact ⟨_, rfl, World.ownsRow_lit _ #[] 0 (Nat.le_refl _) (by decide) rfl, (Below.refl _ _).alloc (Nat.le_refl _) _⟩
      · clear h
        go_enter Try.func16, Try.ntmps16
        go_wp2
        go_ret
        exact ⟨_, rfl, World.ownsRow_lit _ #[] 0 (Nat.le_refl _) (by decide) rfl, (Below.refl _ _).alloc (Nat.le_refl _) _⟩
    · clear h
      go_enter Try.func16, Try.ntmps16
      go_wp2
      go_ret
      exact ⟨_, rfl, World.ownsRow_lit _ #[] 0 (Nat.le_refl _) (by decide) rfl, (Below.refl _ _).alloc (Nat.le_refl _) _⟩
  · have a' : ((m : Int) != 16) = true := by simp; omega
    clear h
    go_enter Try.func16, Try.ntmps16
    go_wp2
    go_ret
    exact ⟨_, rfl, World.ownsRow_lit _ #[] 0 (Nat.le_refl _) (by decide) rfl, (Below.refl _ _).alloc (Nat.le_refl _) _⟩

set_option maxRecDepth 20000 in
set_option maxHeartbeats 2000000 in
theorem specDer_ok (b off cap : Nat) (ss : List Int) (s : ByteArray) (n : Nat) (w : World) (hrow : Row w .u8 (.slice (some ⟨b, off, none⟩) 16 cap) ss) (hB : Bytes ss) (hl : ss.length = 16) (hs : s.size ≤ 32) (hn0 : 1 ≤ n) (hn : n ≤ 64) :
    Calls Try.prog 16 #[.slice (some ⟨b, off, none⟩) 16 cap, .string s, .int .i64 (n : Int)] w fun e w' => ∃ r, e = .returned r ∧ w'.ownsRow w.heap.size 5 1 r n ((drvV ss (lab s) n).map (Value.int .u8)) ∧ Below w.heap.size w w' := by
  obtain ⟨i0, hi, hz0, hz1, hz2⟩ := info_parts infoU8
  have HH : Hid _ := And.intro hrow (And.intro hB hl)
  have kc := fun (w : World) => run_bytes_of_string (P := Try.prog) w 9 22 5 s Try.underlying9 Try.underlying22 Try.underlying5
  clear hrow hB hl
  go_enter Try.func16, Try.ntmps16
  go_wp2
  go_loopw [7, 8] (fun v i wr => ∃ k : Nat, k ≤ 4 ∧ i = .int .i64 (k : Int) ∧ wr.ownsRow w.heap.size 5 1 v (16 * k) ((blk ss (lab s) k).map (Value.int .u8)) ∧ Below w.heap.size w wr) (fun _ i _ => 4 - (intOf i).toNat)
  case atStart => exact ⟨0, by omega, rfl, World.ownsRow_lit _ #[] 0 (Nat.le_refl _) (by decide) rfl, (Below.refl _ _).alloc (Nat.le_refl _) _⟩
  case round =>
    obtain ⟨k, hk, rfl, hown, hb⟩ := hrel
    by_cases hlt : 16 * k < n
    · obtain ⟨ao', cap', ev⟩ := (row_of_owns hown).form
      rw [blk_length] at ev
      subst ev
      have HO : Hid _ := And.intro hown hb
      clear hown hb
      have hge := grownCap_ge wr s.size 0 5
      have hle := grownCap_le_maxLen wr s.size 0 5 (by unfold maxLen; omega)
      go_wp2_with (at_builtin; refine wpList_append_lab wr s (grownCap wr s.size 0 5) (k : Int) i0 rfl _ _ rfl hi hz0 hz1 hz2 rfl rfl (by omega) hge hle ?_; intro v1 w1 row1 bel1)
      go_at_call 13
      refine (specDigest _ v1 ss (lab s ++ [(k : Int)]) w1 (HH.out.1.below (HO.out.2.trans (bel1.mono HO.out.2.size))) row1 HH.out.2.1 (bytes_append (lab_bytes s) (by intro x hx; simp at hx; subst hx; omega)) (by rw [HH.out.2.2]; decide) (by rw [List.length_append, lab_length]; simp; omega)).mono ?_
      rintro e w2 ⟨r, rfl, o2, b2⟩
      obtain ⟨g, cp, rfl, _, _⟩ := owns_shape o2 (by decide)
      have oo := owns_below HO.out.1 (bel1.trans (b2.mono bel1.size))
      have hbs : w.heap.size ≤ w2.heap.size := Nat.le_trans HO.out.2.size (Nat.le_trans bel1.size b2.size)
      have HB : Hid _ := And.intro bel1 b2
      clear row1 bel1 b2
      go_wp2_with (at_builtin; refine wpList_append_own _ rfl _ _ 22 rfl w.heap.size 5 i0 (.int .u8 0) 1 1 Try.underlying22 hi hz0 hz1 hz2 rfl (by decide) _ _ _ rfl oo ⟨g, 0, none⟩ 16 cp ((digV ss (lab s ++ [(k : Int)])).map (Value.int .u8)) rfl o2.1 (pc_cells o2) (pc_one _ _) (by unfold maxLen; omega) (by omega) hbs ?_; intro v3 w3 o3 g3 _)
      have HF : Hid _ := And.intro o3 ((HO.out.2.trans ((HB.out.1.trans (HB.out.2.mono HB.out.1.size)).mono HO.out.2.size)).grown g3 hbs (fun j hj => (oo.lt j hj).1))
      clear o3 g3 oo o2
      go_wp2
      go_roundw
      case rel =>
        refine ⟨k + 1, by omega, by go_num, ?_, HF.out.2⟩
        show World.ownsRow _ _ _ _ _ _ ((blk ss (lab s) k ++ digV ss (lab s ++ [(k : Int)])).map (Value.int .u8))
        rw [List.map_append]
        exact HF.out.1
      case measure => simp [intOf]; omega
    · have hkn : 1 ≤ k := by omega
      have et : (blk ss (lab s) k).take n = drvV ss (lab s) n := by
        have := blk_take ss (lab s) n k (4 - k) (by omega)
        rw [show k + (4 - k) = 4 by omega] at this
        exact this.symm
      obtain ⟨g, cp, ev, hg0, hg1⟩ := owns_shape hown (by omega)
      subst ev
      have hcap : 16 * k ≤ cp ∧ cp ≤ maxLen := by
        rcases hown.2 with ⟨e, _⟩ | ⟨g', cap', cur, e, _, _, h1, h2, _⟩
        · cases e
        · cases e; exact ⟨h1, h2⟩
      have hcm : cp ≤ 9223372036854775807 := by have := hcap.2; unfold maxLen at this; omega
      have hc1 := hcap.1
      have hcs : ∀ (j : Nat) (u : Value), ((drvV ss (lab s) n).map (Value.int .u8))[j]? = some u → (wr.alloc (.cells #[] 5)).cell? ((⟨g, 0, none⟩ : Addr).add j) = some u := by
        intro j u hj
        have hj' : j < n := by
          have := (List.getElem?_eq_some_iff.1 hj).1
          rw [List.length_map, drvV_length _ _ _ hn] at this
          exact this
        rw [← et, List.map_take, List.getElem?_take] at hj
        rw [if_pos hj'] at hj
        have hb' := ((Below.refl wr.heap.size wr).alloc (Nat.le_refl _) (.cells #[] 5)).cell (p := ⟨g, 0 + j, none⟩) hg1
        have hp := pc_cells hown j u hj
        rw [Go.WideShapes.add_plain] at hp ⊢
        rw [hb']
        exact hp
      have hlen : ((drvV ss (lab s) n).map (Value.int .u8)).length = n * 1 := by rw [List.length_map, drvV_length _ _ _ hn]; omega
      have HF : Hid _ := And.intro hcs (And.intro hlen hb)
      have hbs : w.heap.size ≤ (wr.alloc (.cells #[] 5)).heap.size := by have := hb.size; simp; omega
      have hlit : (wr.alloc (.cells #[] 5)).ownsRow w.heap.size 5 1 (.slice (some ⟨wr.heap.size, 0, none⟩) 0 0) 0 [] := World.ownsRow_lit wr #[] 0 hb.size (by decide) rfl
      clear hown hb hcs hlen et hcap
      go_wp2_with (at_builtin; refine wpList_append_own _ rfl _ _ 22 rfl w.heap.size 5 i0 (.int .u8 0) 1 1 Try.underlying22 hi hz0 hz1 hz2 rfl (by decide) (.slice (some ⟨wr.heap.size, 0, none⟩) 0 0) 0 [] rfl hlit ⟨g, 0, none⟩ n cp ((drvV ss (lab s) n).map (Value.int .u8)) rfl HF.out.2.1 HF.out.1 (pc_one _ _) (by unfold maxLen; omega) (by omega) hbs ?_; intro v3 w3 o3 g3 _)
      have HG : Hid _ := And.intro o3 ((HF.out.2.2.alloc HF.out.2.2.size _).grown g3 hbs (fun j hj => (hlit.lt j hj).1))
      clear o3 g3
      go_wp2
      go_ret
      refine ⟨_, rfl, ?_, HG.out.2⟩
      have := HG.out.1
      rw [Nat.zero_add, List.nil_append] at this
      exact this

/-- What Derive answers. -/
def derV (ss : List Int) (s : ByteArray) (n : Int) : List Int := if ss.length = 16 ∧ s.size ≤ 32 ∧ 1 ≤ n ∧ n ≤ 64 then drvV ss (lab s) n.toNat else []
theorem derV_bytes (ss : List Int) (s : ByteArray) (n : Int) : Bytes (derV ss s n) := by
  unfold derV
  split
  · exact drvV_bytes _ _ _
  · intro x hx; cases hx
theorem derV_length (ss : List Int) (s : ByteArray) (n : Int) : (derV ss s n).length ≤ 64 := by
  unfold derV
  split
  · rw [drvV_length _ _ _ (by omega)]; omega
  · simp
theorem specDerive (v : Value) (ss : List Int) (s : ByteArray) (n : Int) (w : World) (hrow : Row w .u8 v ss) (hB : Bytes ss) (hl : ss.length ≤ 9223372036854775807) (hs : s.size ≤ 9223372036854775807) :
    Calls Try.prog 16 #[v, .string s, .int .i64 n] w fun e w' => ∃ r, e = .returned r ∧ w'.ownsRow w.heap.size 5 1 r (derV ss s n).length ((derV ss s n).map (Value.int .u8)) ∧ Below w.heap.size w w' := by
  by_cases h : ss.length = 16 ∧ s.size ≤ 32 ∧ 1 ≤ n ∧ n ≤ 64
  · obtain ⟨h16, h32, h1, h64⟩ := h
    obtain ⟨m, rfl⟩ := Int.eq_ofNat_of_zero_le (show 0 ≤ n by omega)
    have e : derV ss s (m : Int) = drvV ss (lab s) m := by unfold derV; rw [if_pos ⟨h16, h32, h1, h64⟩]; rfl
    rw [e, drvV_length _ _ _ (by omega)]
    obtain ⟨b, off, cap, rfl, hb, hc⟩ := hrow.at (by omega)
    rw [h16] at hrow ⊢
    exact specDer_ok b off cap ss s m w hrow hB h16 h32 (by omega) (by omega)
  · have e : derV ss s n = [] := by unfold derV; rw [if_neg h]
    rw [e]
    obtain ⟨ao, cap, rfl⟩ := hrow.form
    exact specDer_bad ao ss.length cap s n w hl hs h
end Go.Proofs.Ytjdmknlcjejecaa
