import Derived.Test.YtkpmdcmgcdnpfaaXor
import Derived.Test.YtkpmdcmgcdnpfaaDer
import Derived.Test.YtkpmdcmgcdnpfaaBook
import Derived.Deep.RegionLaw
namespace Go.Proofs.Ytkpmdcmgcdnpfaa
open Go.RowKit
set_option linter.unusedVariables false

set_option maxHeartbeats 400000 in
theorem catC (va vb : Value) (xs ys : List Int) (w : World) (ha : Row w .u8 va xs) (hb : Row w .u8 vb ys) (hx : xs.length ≤ 1099511627776) (hy : ys.length ≤ 1099511627776) :
    Calls Try.prog 52 #[va, vb] w fun e w' => ∃ r, e = .returned r ∧ w'.ownsRow w.heap.size 5 1 r (xs.length + ys.length) ((xs ++ ys).map (Value.int .u8)) ∧ Below w.heap.size w w' := by
  have WB : Below w.heap.size w (w.alloc (.cells #[] 5)) := (Below.refl _ _).alloc (Nat.le_refl _) _
  have hlit : (w.alloc (.cells #[] 5)).ownsRow w.heap.size 5 1 (.slice (some ⟨w.heap.size, 0, none⟩) 0 0) 0 (([] : List Int).map (Value.int .u8)) := World.ownsRow_lit w #[] 0 (Nat.le_refl _) (by decide) rfl
  have HH : Hid _ := And.intro (And.intro ha hb) (And.intro WB hlit)
  have hx' : 0 + xs.length ≤ 140737488355328 := by omega
  have hy' : 0 + xs.length + ys.length ≤ 140737488355328 := by omega
  have HL : Hid _ := And.intro hx' hy'
  clear ha hb WB hlit hx' hy'
  go_enter Try.func52, Try.ntmps52
  go_wp2_with (first
    | (at_builtin; refine wpList_append_row rfl (.tmp 5) (.tmp 6) rfl w.heap.size (.slice (some ⟨w.heap.size, 0, none⟩) 0 0) 0 [] rfl HH.out.2.2 va xs rfl (HH.out.1.1.below HH.out.2.1) HL.out.1 HH.out.2.1.size ?_; intro v1 w1 o1 g1)
    | (at_builtin; refine wpList_append_row rfl (.tmp 7) (.tmp 8) rfl w.heap.size v1 (0 + xs.length) ([] ++ xs) rfl o1 vb ys rfl (HH.out.1.2.below (HH.out.2.1.grown g1 HH.out.2.1.size (fun k hk => (HH.out.2.2.lt k hk).1))) HL.out.2 (HH.out.2.1.grown g1 HH.out.2.1.size (fun k hk => (HH.out.2.2.lt k hk).1)).size ?_; intro v2 w2 o2 g2))
  have b1 : Below w.heap.size w w1 := HH.out.2.1.grown g1 HH.out.2.1.size (fun k hk => (HH.out.2.2.lt k hk).1)
  have HF : Hid _ := And.intro o2 (b1.grown g2 b1.size (fun k hk => (o1.lt k hk).1))
  clear o1 o2 g1 g2 b1
  go_wp2
  go_ret
  refine ⟨_, rfl, ?_, HF.out.2⟩
  have := HF.out.1
  rw [Nat.zero_add, List.nil_append] at this
  exact this

/-- The first j blocks of the stream. -/
def sblk (ks nn : List Int) : Nat → List Int
  | 0 => []
  | j + 1 => sblk ks nn j ++ digV ks (nn ++ be (j : Int) 4)
theorem sblk_length (ks nn : List Int) (j : Nat) : (sblk ks nn j).length = 16 * j := by
  induction j with
  | zero => rfl
  | succ j ih => simp [sblk, ih, digV_length]; omega
theorem sblk_bytes (ks nn : List Int) (j : Nat) : Bytes (sblk ks nn j) := by
  induction j with
  | zero => intro x hx; simp [sblk] at hx
  | succ j ih => exact bytes_append ih (digV_bytes _ _)

theorem Book.grown {wx w' : World} {L : List (Nat × Obj)} {g : Option Nat} (h : Book wx L) (hc : wx.grownBy w' g) (hs : ∀ b o, (b, o) ∈ L → g ≠ some b) : Book w' L := ⟨fun b o hm => (hc.block b (h.lt hm) (fun e => hs b o hm e.symm)).trans (h.blk b o hm)⟩
theorem strm_step {w wr w3 w4 : World} {v v4 : Value} {ks nn : List Int} {j : Nat} {o : Obj} (hown : wr.ownsRow (w.heap.size + 1) 5 1 v (16 * j) ((sblk ks nn j).map (Value.int .u8))) (hbl : Below w.heap.size w wr) (hbk : Book wr [(w.heap.size, o)]) (d : Below wr.heap.size wr w3)
    (o4 : w4.ownsRow (w.heap.size + 1) 5 1 v4 (16 * j + (digV ks (nn ++ be (j : Int) 4)).length) ((sblk ks nn j ++ digV ks (nn ++ be (j : Int) 4)).map (Value.int .u8))) (g4 : w3.grownBy w4 v.ownBlock) :
    w4.ownsRow (w.heap.size + 1) 5 1 v4 (16 * (j + 1)) ((sblk ks nn (j + 1)).map (Value.int .u8)) ∧ Below w.heap.size w w4 ∧ Book w4 [(w.heap.size, o)] := by
  have hlt := hbk.lt (b := w.heap.size) (o := o) (by simp)
  have hb3 := hbl.trans (d.mono hbl.size)
  refine ⟨?_, ?_, ?_⟩
  · rw [digV_length] at o4
    exact o4
  · exact hb3.grown g4 hb3.size (fun k hk => by have := (hown.lt k hk).1; omega)
  · refine (hbk.below d).grown g4 (fun b o' hm e => ?_)
    have hm' : b = w.heap.size := by simp at hm; exact hm.1
    have := (hown.lt b e).1
    omega

set_option maxHeartbeats 4000000 in
theorem streamC (v nv : Value) (k : K4) (nn : List Int) (n : Nat) (w : World) (hk : KRow w v k) (hn : Row w .u8 nv nn) (bk : Bytes k.b) (bn : Bytes nn) (lk : k.b.length ≤ 1048576) (ln : nn.length ≤ 1048576) (h1 : n ≤ 1048576) :
    Calls Try.prog 43 #[v, nv, .int .i64 (n : Int)] w fun e w' => ∃ r, e = .returned r ∧ w'.ownsRow w.heap.size 5 1 r (16 * ((n + 15) / 16)) ((sblk k.b nn ((n + 15) / 16)).map (Value.int .u8)) ∧ Below w.heap.size w w' := by
  obtain ⟨v0, v1, v2, v3, rfl, r0, r1, r2, r3⟩ := hk
  have K0 := (Book.nil w).add (.cells #[v0, v1, v2, v3] 38)
  have HH : Hid _ := And.intro (And.intro r1 hn) (And.intro (And.intro bk bn) (And.intro lk ln))
  have HK : Hid _ := K0
  clear r0 r1 r2 r3 hn bk bn lk ln K0
  go_enter Try.func43, Try.ntmps43
  go_wp2
  go_loopw [7, 8] (fun v i wr => ∃ j : Nat, j ≤ (n + 15) / 16 ∧ i = .int .i64 (j : Int) ∧ wr.ownsRow (w.heap.size + 1) 5 1 v (16 * j) ((sblk k.b nn j).map (Value.int .u8)) ∧ Below w.heap.size w wr ∧ Book wr [(w.heap.size, .cells #[v0, v1, v2, v3] 38)]) (fun _ i _ => (n + 15) / 16 - (intOf i).toNat)
  case atStart =>
    refine ⟨0, by omega, rfl, ?_, ((Below.refl _ _).alloc (Nat.le_refl _) _).alloc (by simp) _, HK.out.below ((Below.refl _ _).alloc (Nat.le_refl _) _)⟩
    have h := World.ownsRow_lit (base := w.heap.size + 1) (e := 5) (size := 1) (w.alloc (.cells #[v0, v1, v2, v3] 38)) #[] 0 (by simp) (by decide) rfl
    rw [World.size_alloc] at h
    exact h
  case round =>
    obtain ⟨j, hj, rfl, hown, hbl, hbk⟩ := hrel
    obtain ⟨ao', cp', ev⟩ := (row_of_owns hown).form
    rw [sblk_length] at ev
    subst ev
    by_cases hlt : 16 * j < n
    · have hj' : j < (n + 15) / 16 := by omega
      have hbd : w.heap.size + 1 ≤ wr.heap.size := hbk.lt (b := w.heap.size) (o := .cells #[v0, v1, v2, v3] 38) (by simp)
      have cw : wr.drew.cell? ⟨w.heap.size, 1, none⟩ = some v1 := (hbk.drew.c4 (b := w.heap.size) (x0 := v0) (x1 := v1) (x2 := v2) (x3 := v3) (t := 38) (by simp)).2.1
      have HO : Hid _ := And.intro hown (And.intro hbl hbk)
      have D : Hid (Below wr.heap.size wr wr.drew) := ⟨rfl, rfl, rfl, Nat.le_refl _, fun _ _ => rfl⟩
      clear hown hbl hbk
      go_wp2
      go_region_law (first
        | (go_simp; go_at_call 22; refine (digits 4 (j : Int) wr.drew ?_ ?_ ?_).mono ?_; omega; omega; decide; rintro e w1 ⟨q1, rfl, o1, b1⟩; have c1 := ((HO.out.2.2.drew.below b1).c4 (b := w.heap.size) (x0 := v0) (x1 := v1) (x2 := v2) (x3 := v3) (t := 38) (by simp)).2.1)
        | (go_simp; go_at_call 52; refine (catC nv q1 nn (be (j : Int) 4) w1 (HH.out.1.2.below (HO.out.2.1.trans ((D.out.trans b1).mono HO.out.2.1.size))) (row_of_owns o1) ?_ ?_).mono ?_; (have := HH.out.2.2.2; omega); (rw [be_length]; decide); rintro e w2 ⟨q2, rfl, o2, b2⟩; have c2 := (((HO.out.2.2.drew.below b1).below b2).c4 (b := w.heap.size) (x0 := v0) (x1 := v1) (x2 := v2) (x3 := v3) (t := 38) (by simp)).2.1)
        | (go_simp; go_at_call 51; refine (specDigest v1 q2 k.b (nn ++ be (j : Int) 4) w2 (HH.out.1.1.below (HO.out.2.1.trans ((D.out.trans (b1.trans (b2.mono b1.size))).mono HO.out.2.1.size))) (row_of_owns o2) HH.out.2.1.1 (bytes_append HH.out.2.1.2 (be_bytes _ _)) ?_ ?_).mono ?_; (have := HH.out.2.2.1; omega); (rw [List.length_append, be_length]; have := HH.out.2.2.2; omega); rintro e w3 ⟨q3, rfl, o3, b3⟩)
        | (refine step_append_row rfl (.tmp 16) (.tmp 23) rfl (w.heap.size + 1) (.slice ao' (16 * j) cp') (16 * j) (sblk k.b nn j) rfl (owns_below HO.out.1 (D.out.trans (b1.trans ((b2.trans (b3.mono b2.size)).mono b1.size)))) q3 (digV k.b (nn ++ be (j : Int) 4)) rfl (row_of_owns o3) ?_ ?_ ?_; (rw [digV_length]; omega); (have h1 := b1.size; have h2 := b2.size; have h3 := b3.size; have h4 : wr.drew.heap.size = wr.heap.size := rfl; omega); intro v4 w4 o4 g4))
      all_goals
        have d : Below wr.heap.size wr w3 := D.out.trans (b1.trans ((b2.trans (b3.mono b2.size)).mono b1.size))
        have HR : Hid _ := strm_step HO.out.1 HO.out.2.1 HO.out.2.2 d o4 g4
        clear o4 g4 d o1 b1 o2 b2 o3 b3 cw
        go_wp2
        go_roundw
        case rel => exact ⟨j + 1, by omega, by go_num, HR.out.1, HR.out.2.1, HR.out.2.2⟩
        case measure => simp [intOf]; omega
    · obtain rfl : j = (n + 15) / 16 := by omega
      have HR : Hid _ := And.intro hown hbl
      clear hown hbl hbk
      go_wp2
      go_ret
      exact ⟨_, rfl, owns_mono HR.out.1 (Nat.le_succ _), HR.out.2⟩
end Go.Proofs.Ytkpmdcmgcdnpfaa
