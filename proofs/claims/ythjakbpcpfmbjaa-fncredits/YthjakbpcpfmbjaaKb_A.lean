import Derived.Test.YthjakbpcpfmbjaaKb_L
namespace Go.Proofs.Ythjakbpcpfmbjaa
open Go.RowKit
set_option linter.unusedVariables false
set_option linter.unusedSimpArgs false

theorem sum_take {α : Type} (f : α → Int) (L : List α) (d : α) (k : Nat) (h : k < L.length) : ((L.take (k + 1)).map f).sum = ((L.take k).map f).sum + f (L.getD k d) := by
  rw [List.take_succ_eq_append_getElem h, List.map_append, List.sum_append]
  simp [List.getD, h]
theorem sum_pre {α : Type} (f : α → Int) : ∀ (L : List α) (k : Nat), (∀ s ∈ L, 0 ≤ f s) → 0 ≤ ((L.take k).map f).sum ∧ ((L.take k).map f).sum ≤ (L.map f).sum
  | [], k, h => by simp
  | s :: r, 0, h => by
    have a := (one_le_sum f (s :: r) h).1
    exact ⟨by simp, by simpa using a⟩
  | s :: r, k + 1, h => by
    have a := sum_pre f r k (fun s hs => h s (List.mem_cons_of_mem _ hs))
    have b := h s (by simp)
    simp only [List.take_succ_cons, List.map_cons, List.sum_cons]
    omega
theorem OM.ofMR {x base q : Nat} {w W : World} {F : FS} {m : FX} {lv : Value} (P : MR W x base F m lv) (C : MCh base w W) {r1 : Array Value} (h1 : W.heap[q]? = some (.cells r1 35 (0, 0))) : OM q x base w W F m (.slice none 0 0) [] r1 := ⟨⟨lv, P⟩, C, h1, framesM _ _⟩
theorem OM.drew {x base q : Nat} {w W : World} {F : FS} {m : FX} {fv : Value} {fr : List (Int × Int × Int)} {r1 : Array Value} (h : OM q x base w W F m fv fr r1) : OM q x base w W.drew F m fv fr r1 := by
  obtain ⟨lv, P⟩ := h.P
  exact ⟨⟨lv, P.drewN 1⟩, h.C.drew, h.h1, h.f.below (below_drewN (Below.refl _ _) 1)⟩

set_option maxRecDepth 20000 in
set_option maxHeartbeats 4000000 in
theorem sendM (x base : Nat) (F : FS) (m : FX) (i : Nat) (id n : Int) (w : World) (h : MRep w x base F m) (hI : FXI F i m) (hi : i ≤ 400) (hbase : base ≤ w.heap.size) :
    Calls Try.prog 29 #[.pointer (some ⟨x, 0, none⟩), .int .i64 id, .int .i64 n] w fun e w' => ∃ fv, e = .returned (.agg #[.int .i64 (fsend F m id n).2.code, .int .i64 (fsend F m id n).2.id, .int .i64 (fsend F m id n).2.cnt, fv]) ∧ GOwns 38 8 w' w.heap.size fv ((fsend F m id n).2.fr.map frC) ∧ MDo w w' x base F (fsend F m id n).1 := by
  have TN := fun n => OM.new h n
  have T0 : OM w.heap.size x base w (w.alloc obZ) F m (.slice none 0 0) [] #[.int .i64 0, .int .i64 0, .int .i64 0, .slice none 0 0] := OM.new h 0
  obtain ⟨lv, P⟩ := h
  have hB : Below w.heap.size w (w.alloc obZ) := (Below.refl _ _).alloc (Nat.le_refl _) _
  have PB := P.below hB
  by_cases a : n < 0
  · have e : fsend F m id n = (m, ⟨1, 0, 0, []⟩) := if_pos a
    rw [e]
    have HH : Hid _ := And.intro TN T0
    unfold obZ at HH
    clear e P PB hB hI TN T0
    go_enter Try.func29, Try.ntmps29
    go_wp2_with (refine wpList_store_row rfl 35 _ _ rfl w.heap.size #[.int .i64 1, .int .i64 0, .int .i64 0, .slice none 0 0] rfl rfl 35 _ (HH.out.2).h1 infoFObsM rfl (by simp [Value.oneCell']) ?_)
    have T := (HH.out.2).row (Nat.le_refl _) #[.int .i64 1, .int .i64 0, .int .i64 0, .slice none 0 0]
    try simp only [Exit.inBlock, Exit.then]
    refine bodyPost_ret (v := .agg #[.int .i64 1, .int .i64 0, .int .i64 0, .slice none 0 0]) ?_ rfl ?_
    · exact results_cell_row (t := 35) rfl _ _ (w.heap.size) _ (fr := (0, 0)) _ rfl T.h1 Try.underlying35 rfl infoFObsM
    · exact ⟨_, rfl, T.f, T.P, T.C⟩

  have S := sendsM x base F m lv i id (w.alloc obZ) PB hI hi
  by_cases c : canS F m.L id
  · have e : fsend F m id n = ({ m with L := sxSet m.L id { sxAt m.L id with sn := (sxAt m.L id).sn + cntS m id n } }, ⟨0, 0, cntS m id n, []⟩) := (if_neg a).trans (if_pos c)
    rw [e]
    rw [if_pos c] at S
    obtain ⟨E, -⟩ := hI.at' c.1
    have hs := E.sn
    have hc := E.cr
    have hss := hI.sum0.1
    have hcc := hI.cc
    have hlen := hI.len_le hi
    have h0 : 0 < m.L.length := by have := c.1; omega
    obtain ⟨lb, cap, elv, hne, hlb, ⟨cur, hg⟩, hcell⟩ := PB.at' h0
    subst elv
    have c9 : (w.alloc obZ).cell? ⟨x, 9, none⟩ = some (.slice (some ⟨lb, 0, none⟩) m.L.length cap) := PB.cell 9
    have c14 : (w.alloc obZ).cell? ⟨x, 14, none⟩ = some (.int .i64 m.cc) := PB.cell 14
    have a1 : (w.alloc obZ).cell? ⟨lb, ixf m.L id * 7 + 1, none⟩ = some (.int .i64 (sxAt m.L id).cr) := hcell _ c.1 1 (by omega)
    have a2 : (w.alloc obZ).cell? ⟨lb, ixf m.L id * 7 + 2, none⟩ = some (.int .i64 (sxAt m.L id).sn) := hcell _ c.1 2 (by omega)
    have fz := bk_free hg (ixf m.L id * 7 + 2)
    have hq : w.heap.size ≠ lb := bk_apart (heap_alloc_new w obZ) hg (by decide)
    obtain ⟨ct, ect⟩ : ∃ ct, ct = cntS m id n := ⟨_, rfl⟩
    have R1 : OM w.heap.size x base w ((w.alloc obZ).setCell ⟨lb, ixf m.L id * 7 + 2, none⟩ (.int .i64 ((sxAt m.L id).sn + ct))) F { m with L := sxSet m.L id { sxAt m.L id with sn := (sxAt m.L id).sn + ct } } (.slice none 0 0) [] #[.int .i64 0, .int .i64 0, .int .i64 0, .slice none 0 0] := OM.ofMR (PB.setA c.1 rfl 2 (by omega) (.int .i64 ((sxAt m.L id).sn + ct)) { sxAt m.L id with sn := (sxAt m.L id).sn + ct } rfl) (PB.chA (ChT.of_below hB) h0 rfl (ixf m.L id * 7 + 2) (.int .i64 ((sxAt m.L id).sn + ct))) ((bk_other hq (ixf m.L id * 7 + 2) (.int .i64 ((sxAt m.L id).sn + ct))).trans (heap_alloc_new w obZ))
    have pre := fun k => sum_pre SX.sn m.L k (fun s hs => (hI.each s hs).sn.1)
    have stp := fun k => sum_take SX.sn m.L default k
    have c2 : ∀ k, k < m.L.length → (w.alloc obZ).cell? ⟨lb, k * 7 + 2, none⟩ = some (.int .i64 (m.L.getD k default).sn) := fun k hk => hcell k hk 2 (by omega)
    have full : ((m.L.take m.L.length).map SX.sn).sum = sumS m.L := by rw [List.take_length]; rfl
    have hmax : ∀ k, ((m.L.take k).map SX.sn).sum ≤ sumS m.L := fun k => (pre k).2
    have hmin : ∀ k, 0 ≤ ((m.L.take k).map SX.sn).sum := fun k => (pre k).1
    rw [← ect]
    unfold cntS at ect
    have M := fun u => mn3m n ((sxAt m.L id).cr - (sxAt m.L id).sn) (m.cc - sumS m.L) #[3, 3, 3] 3 u
    rw [← ect] at M
    have hct : (sxAt m.L id).sn + ct ≤ (sxAt m.L id).cr ∧ -4611686018427387904 ≤ ct := by omega
    have hjl := c.1
    unfold obZ at *
    have HH : Hid _ := And.intro S (And.intro R1 (And.intro stp (And.intro c2 (And.intro full (And.intro hmax hmin)))))
    clear e P PB hB hI TN T0 S R1 pre stp c2 full hmax hmin hcell hg ect E c h0
    generalize (sxAt m.L id).cr = cr at *
    generalize (sxAt m.L id).sn = sn at *
    generalize sumS m.L = ss at *
    generalize m.cc = cc at *
    generalize ixf m.L id = j at *
    obtain ⟨ln, eln⟩ : ∃ ln, ln = m.L.length := ⟨_, rfl⟩
    have HL : Hid _ := eln
    rw [← eln] at c9 hjl hlen
    clear eln
    go_enter Try.func29, Try.ntmps29
    go_wp2_with (go_at_call 47; refine (HH.out.1).mono ?_; rintro e w1 ⟨rfl, hw1⟩; subst hw1)
    go_loopg [8, 9] ln (fun q s8 s9 wr => ∃ k : Nat, k ≤ ln ∧ q = ln - k ∧ s8 = .int .i64 ((m.L.take k).map SX.sn).sum ∧ s9 = .int .i64 (k : Int) ∧ wr = w.alloc (.cells #[.int .i64 0, .int .i64 0, .int .i64 0, .slice none 0 0] 35))
    case atStart => exact ⟨0, by omega, by omega, by simp, rfl, rfl⟩
    case round =>
      obtain ⟨k, hk, hq2, rfl, rfl, rfl⟩ := hrel
      by_cases hlt : k < ln
      · have c0 := HH.out.2.2.2.1 k (by have := HL.out; omega)
        have h8 := HH.out.2.2.2.2.2.1 (k + 1)
        have h9 := HH.out.2.2.2.2.2.2 k
        have h10 := HH.out.2.2.2.2.2.2 (k + 1)
        have hst := HH.out.2.2.1 k (by have := HL.out; omega)
        have HS : Hid _ := hst
        rw [hst] at h8 h10
        clear hst
        generalize ((m.L.take k).map SX.sn).sum = sk at *
        generalize (m.L.getD k default).sn = y at *
        go_wp2
        go_roundg (ln - (k + 1))
        case measure => omega
        case rel => exact ⟨k + 1, by omega, rfl, by rw [HS.out], by go_num, rfl⟩
      · obtain rfl : k = ln := by omega
        have hf := HH.out.2.2.2.2.1
        rw [← HL.out] at hf
        rw [hf] at *
        go_wp2
        go_region
        go_wp2
        go_region
        go_wp2
        have T := OM.drew (OM.drew (OM.s (Nat.le_refl _) (OM.s (Nat.le_refl _) (OM.s (Nat.le_refl _) (OM.s (Nat.le_refl _) HH.out.2.1 0 (.int .i64 0)) 1 (.int .i64 0)) 2 (.int .i64 ct)) 3 (.slice none 0 0)))
        try simp only [Exit.inBlock, Exit.then]
        refine bodyPost_ret (v := .agg #[.int .i64 0, .int .i64 0, .int .i64 ct, .slice none 0 0]) ?_ rfl ?_
        · exact results_cell_row (t := 35) rfl _ _ (w.heap.size) _ (fr := (0, 0)) _ rfl T.h1 Try.underlying35 rfl infoFObsM
        · exact ⟨_, rfl, T.f, T.P, T.C⟩

  · have e : fsend F m id n = (m, ⟨7, 0, 0, []⟩) := (if_neg a).trans (if_neg c)
    rw [e]
    rw [if_neg c] at S
    unfold obZ at *
    have HH : Hid _ := And.intro S T0
    clear e P PB hB hI TN T0 S c
    go_enter Try.func29, Try.ntmps29
    go_wp2_with (first | (go_at_call 47; refine (HH.out.1).mono ?_; rintro e w1 ⟨rfl, hw1⟩; subst hw1) | (refine wpList_store_row rfl 35 _ _ rfl w.heap.size #[.int .i64 7, .int .i64 0, .int .i64 0, .slice none 0 0] rfl rfl 35 _ (HH.out.2).h1 infoFObsM rfl (by simp [Value.oneCell']) ?_))
    have T := (HH.out.2).row (Nat.le_refl _) #[.int .i64 7, .int .i64 0, .int .i64 0, .slice none 0 0]
    try simp only [Exit.inBlock, Exit.then]
    refine bodyPost_ret (v := .agg #[.int .i64 7, .int .i64 0, .int .i64 0, .slice none 0 0]) ?_ rfl ?_
    · exact results_cell_row (t := 35) rfl _ _ (w.heap.size) _ (fr := (0, 0)) _ rfl T.h1 Try.underlying35 rfl infoFObsM
    · exact ⟨_, rfl, T.f, T.P, T.C⟩

end Go.Proofs.Ythjakbpcpfmbjaa

namespace Go.Proofs.Ythjakbpcpfmbjaa
open Go.RowKit
set_option linter.unusedVariables false
set_option linter.unusedSimpArgs false

theorem varFx (v : Int) (w : World) : Calls Try.prog 27 #[.int .i64 v] w fun e w' => e = .returned (.bool (decide (0 ≤ v ∧ v ≤ 4611686018427387903))) ∧ w' = w := by
  by_cases h0 : 0 ≤ v
  · by_cases h1 : v ≤ 4611686018427387903
    · rw [decide_eq_true ⟨h0, h1⟩]
      go_enter Try.func27, Try.ntmps27
      go_wp2
      go_ret
      exact ⟨rfl, rfl⟩
    · rw [decide_eq_false (fun h => h1 h.2)]
      have hd : decide (v ≤ 4611686018427387903) = false := decide_eq_false h1
      go_enter Try.func27, Try.ntmps27
      go_wp2
      go_ret
      exact ⟨rfl, rfl⟩
  · rw [decide_eq_false (fun h => h0 h.1)]
    have hd : decide (0 ≤ v) = false := decide_eq_false h0
    go_enter Try.func27, Try.ntmps27
    go_wp2
    go_ret
    exact ⟨rfl, rfl⟩
def ftold (F : FS) (m : FX) (k id n : Int) (o : Bool) : FX × Int := if k = 6 then fdin m n else if k = 7 then fsin F m id n else fmin m o n
/-- A box of an operation. -/
def bxO (k id n : Int) (o : Bool) : Obj := .cells #[.int .i64 k, .int .i64 id, .int .i64 n, .bool o] 32
theorem MDo.same {x base : Nat} {w w' : World} {F : FS} {m : FX} (h : MRep w x base F m) (hb : Below w.heap.size w w') : MDo w w' x base F m := by
  obtain ⟨lv, P⟩ := h
  exact ⟨⟨lv, P.below hb⟩, ChT.of_below hb⟩
theorem MDo.drew {x base : Nat} {w w' : World} {F : FS} {m : FX} (h : MDo w w' x base F m) : MDo w w'.drew x base F m := by
  obtain ⟨⟨lv, P⟩, C⟩ := h
  exact ⟨⟨lv, P.drewN 1⟩, C.drew⟩

set_option maxRecDepth 20000 in
set_option maxHeartbeats 4000000 in
theorem told6M (x base : Nat) (F : FS) (m : FX) (i : Nat) (id n : Int) (o : Bool) (w : World) (h : MRep w x base F m) (hI : FXI F i m) (hi : i ≤ 400) :
    Calls Try.prog 33 #[.pointer (some ⟨x, 0, none⟩), .agg #[.int .i64 6, .int .i64 id, .int .i64 n, .bool o]] w fun e w' => e = .returned (.int .i64 (ftold F m 6 id n o).2) ∧ MDo w w' x base F (ftold F m 6 id n o).1 := by
  rw [show ftold F m 6 id n o = fdin m n from rfl]
  have Wy := fun u => wayM o u
  obtain ⟨wz, ewz⟩ : ∃ z : Nat, z = if o then 1 else 0 := ⟨_, rfl⟩
  have ewi : (if o then (1 : Int) else 0) = (wz : Int) := by rw [ewz]; cases o <;> rfl
  rw [ewi] at Wy
  have hz : (wz : Int) < 2 ∧ wz < 2 := by rw [ewz]; cases o <;> simp
  have V := fun u => varFx n u
  have HS : Hid _ := h
  obtain ⟨lv, P⟩ := h
  have hB : Below w.heap.size w (w.alloc (bxO 6 id n o)) := (Below.refl _ _).alloc (Nat.le_refl _) _
  have PB := P.below hB
  have MS : MDo w (w.alloc (bxO 6 id n o)) x base F m := MDo.same HS.out hB
  by_cases a : n < 0 ∨ 4611686018427387903 < n
  · have e : fdin m n = (m, 1) := if_pos (by omega)
    rw [e]
    rw [decide_eq_false (show ¬ (0 ≤ n ∧ n ≤ 4611686018427387903) by omega)] at V
    have HV : Hid _ := V
    have HM : Hid _ := MS
    unfold bxO at HM
    clear e P PB hB hI V MS Wy ewz ewi hz HS
    go_enter Try.func33, Try.ntmps33
    go_wp2_with (first | (go_at_call 27; refine (HV.out _).mono ?_; rintro e w1 ⟨rfl, hw1⟩; subst hw1))
    go_ret
    exact ⟨rfl, HM.out⟩
  have e : fdin m n = ({ m with cc := max m.cc n }, 0) := if_neg a
  rw [e]
  rw [decide_eq_true (show 0 ≤ n ∧ n ≤ 4611686018427387903 by omega)] at V
  have hd : decide (1152921504606846976 < n) = decide (1152921504606846976 < n) := rfl
  have c14 : (w.alloc (bxO 6 id n o)).cell? ⟨x, 14, none⟩ = some (.int .i64 m.cc) := PB.cell 14
  have f14 := PB.free 14
  obtain ⟨z, hmx⟩ : ∃ z, max m.cc n = z := ⟨_, rfl⟩
  rw [hmx]
  have R1 : MDo w ((w.alloc (bxO 6 id n o)).setCell ⟨x, 14, none⟩ (.int .i64 z)) x base F { m with cc := z } := ⟨⟨lv, PB.setK 14 (.int .i64 z) rfl rfl⟩, PB.chK (ChT.of_below hB) 14 (.int .i64 z)⟩
  unfold bxO at *
  have HV : Hid _ := V
  have HM : Hid _ := R1
  clear e P PB hB hI V MS Wy ewz ewi hz HS R1 hd
  generalize m.cc = cc at *
  go_enter Try.func33, Try.ntmps33
  go_wp2_with (first | (go_at_call 27; refine (HV.out _).mono ?_; rintro e w1 ⟨rfl, hw1⟩; subst hw1))
  go_region
  go_wp2
  go_ret
  exact ⟨rfl, MDo.drew HM.out⟩
set_option maxRecDepth 20000 in
set_option maxHeartbeats 4000000 in
theorem told7M (x base : Nat) (F : FS) (m : FX) (i : Nat) (id n : Int) (o : Bool) (w : World) (h : MRep w x base F m) (hI : FXI F i m) (hi : i ≤ 400) :
    Calls Try.prog 33 #[.pointer (some ⟨x, 0, none⟩), .agg #[.int .i64 7, .int .i64 id, .int .i64 n, .bool o]] w fun e w' => e = .returned (.int .i64 (ftold F m 7 id n o).2) ∧ MDo w w' x base F (ftold F m 7 id n o).1 := by
  rw [show ftold F m 7 id n o = fsin F m id n from rfl]
  have Wy := fun u => wayM o u
  obtain ⟨wz, ewz⟩ : ∃ z : Nat, z = if o then 1 else 0 := ⟨_, rfl⟩
  have ewi : (if o then (1 : Int) else 0) = (wz : Int) := by rw [ewz]; cases o <;> rfl
  rw [ewi] at Wy
  have hz : (wz : Int) < 2 ∧ wz < 2 := by rw [ewz]; cases o <;> simp
  have V := fun u => varFx n u
  have HS : Hid _ := h
  obtain ⟨lv, P⟩ := h
  have hB : Below w.heap.size w (w.alloc (bxO 7 id n o)) := (Below.refl _ _).alloc (Nat.le_refl _) _
  have PB := P.below hB
  have MS : MDo w (w.alloc (bxO 7 id n o)) x base F m := MDo.same HS.out hB
  by_cases a : n < 0 ∨ 4611686018427387903 < n
  · have e : fsin F m id n = (m, 1) := if_pos (by omega)
    rw [e]
    rw [decide_eq_false (show ¬ (0 ≤ n ∧ n ≤ 4611686018427387903) by omega)] at V
    have HV : Hid _ := V
    have HM : Hid _ := MS
    unfold bxO at HM
    clear e P PB hB hI V MS Wy ewz ewi hz HS
    go_enter Try.func33, Try.ntmps33
    go_wp2_with (first | (go_at_call 27; refine (HV.out _).mono ?_; rintro e w1 ⟨rfl, hw1⟩; subst hw1))
    go_ret
    exact ⟨rfl, HM.out⟩
  rw [decide_eq_true (show 0 ≤ n ∧ n ≤ 4611686018427387903 by omega)] at V
  have S := sendsM x base F m lv i id (w.alloc (bxO 7 id n o)) PB hI hi
  by_cases c : canS F m.L id
  · have e : fsin F m id n = ({ m with L := sxSet m.L id { sxAt m.L id with cr := max (sxAt m.L id).cr n } }, 0) := (if_neg a).trans (if_pos c)
    rw [e]
    rw [if_pos c] at S
    have hlen := hI.len_le hi
    have h0 : 0 < m.L.length := by have := c.1; omega
    obtain ⟨lb, cap, elv, hne, hlb, ⟨cur, hg⟩, hcell⟩ := PB.at' h0
    subst elv
    have c9 : (w.alloc (bxO 7 id n o)).cell? ⟨x, 9, none⟩ = some (.slice (some ⟨lb, 0, none⟩) m.L.length cap) := PB.cell 9
    have a1 : (w.alloc (bxO 7 id n o)).cell? ⟨lb, ixf m.L id * 7 + 1, none⟩ = some (.int .i64 (sxAt m.L id).cr) := hcell _ c.1 1 (by omega)
    have fz := bk_free hg (ixf m.L id * 7 + 1)
    obtain ⟨z, hmx⟩ : ∃ z, max (sxAt m.L id).cr n = z := ⟨_, rfl⟩
    rw [hmx]
    have R1 : MDo w ((w.alloc (bxO 7 id n o)).setCell ⟨lb, ixf m.L id * 7 + 1, none⟩ (.int .i64 z)) x base F { m with L := sxSet m.L id { sxAt m.L id with cr := z } } := ⟨⟨_, PB.setA c.1 rfl 1 (by omega) (.int .i64 z) { sxAt m.L id with cr := z } rfl⟩, PB.chA (ChT.of_below hB) h0 rfl (ixf m.L id * 7 + 1) (.int .i64 z)⟩
    have hjl := c.1
    unfold bxO at *
    have HV : Hid _ := V
    have HM : Hid _ := And.intro S R1
    clear e P PB hB hI V MS Wy ewz ewi hz HS R1 S hcell hg c h0
    generalize (sxAt m.L id).cr = cr at *
    generalize ixf m.L id = j at *
    obtain ⟨ln, eln⟩ : ∃ ln, ln = m.L.length := ⟨_, rfl⟩
    rw [← eln] at c9 hjl hlen
    clear eln
    go_enter Try.func33, Try.ntmps33
    go_wp2_with (first | (go_at_call 27; refine (HV.out _).mono ?_; rintro e w1 ⟨rfl, hw1⟩; subst hw1) | (go_at_call 47; refine (HM.out.1).mono ?_; rintro e w1 ⟨rfl, hw1⟩; subst hw1))
    go_region
    go_wp2
    go_ret
    exact ⟨rfl, MDo.drew HM.out.2⟩
  · have e : fsin F m id n = (m, 7) := (if_neg a).trans (if_neg c)
    rw [e]
    rw [if_neg c] at S
    unfold bxO at *
    have HV : Hid _ := V
    have HM : Hid _ := And.intro S MS
    clear e P PB hB hI V MS Wy ewz ewi hz HS S c
    go_enter Try.func33, Try.ntmps33
    go_wp2_with (first | (go_at_call 27; refine (HV.out _).mono ?_; rintro e w1 ⟨rfl, hw1⟩; subst hw1) | (go_at_call 47; refine (HM.out.1).mono ?_; rintro e w1 ⟨rfl, hw1⟩; subst hw1))
    go_ret
    exact ⟨rfl, HM.out.2⟩
set_option maxRecDepth 20000 in
set_option maxHeartbeats 4000000 in
theorem told8M (x base : Nat) (F : FS) (m : FX) (i : Nat) (id n : Int) (o : Bool) (w : World) (h : MRep w x base F m) (hI : FXI F i m) (hi : i ≤ 400) :
    Calls Try.prog 33 #[.pointer (some ⟨x, 0, none⟩), .agg #[.int .i64 8, .int .i64 id, .int .i64 n, .bool o]] w fun e w' => e = .returned (.int .i64 (ftold F m 8 id n o).2) ∧ MDo w w' x base F (ftold F m 8 id n o).1 := by
  rw [show ftold F m 8 id n o = fmin m o n from rfl]
  have Wy := fun u => wayM o u
  obtain ⟨wz, ewz⟩ : ∃ z : Nat, z = if o then 1 else 0 := ⟨_, rfl⟩
  have ewi : (if o then (1 : Int) else 0) = (wz : Int) := by rw [ewz]; cases o <;> rfl
  rw [ewi] at Wy
  have hz : (wz : Int) < 2 ∧ wz < 2 := by rw [ewz]; cases o <;> simp
  have V := fun u => varFx n u
  have HS : Hid _ := h
  obtain ⟨lv, P⟩ := h
  have hB : Below w.heap.size w (w.alloc (bxO 8 id n o)) := (Below.refl _ _).alloc (Nat.le_refl _) _
  have PB := P.below hB
  have MS : MDo w (w.alloc (bxO 8 id n o)) x base F m := MDo.same HS.out hB
  by_cases a : n < 0 ∨ 4611686018427387903 < n
  · have e : fmin m o n = (m, 1) := if_pos (by omega)
    rw [e]
    rw [decide_eq_false (show ¬ (0 ≤ n ∧ n ≤ 4611686018427387903) by omega)] at V
    have HV : Hid _ := V
    have HM : Hid _ := MS
    unfold bxO at HM
    clear e P PB hB hI V MS Wy ewz ewi hz HS
    go_enter Try.func33, Try.ntmps33
    go_wp2_with (first | (go_at_call 27; refine (HV.out _).mono ?_; rintro e w1 ⟨rfl, hw1⟩; subst hw1))
    go_ret
    exact ⟨rfl, HM.out⟩
  rw [decide_eq_true (show 0 ≤ n ∧ n ≤ 4611686018427387903 by omega)] at V
  by_cases b : 1152921504606846976 < n
  · have e : fmin m o n = (m, 1) := if_pos (by omega)
    rw [e]
    have hd : decide (1152921504606846976 < n) = true := decide_eq_true b
    have HV : Hid _ := V
    have HM : Hid _ := MS
    unfold bxO at HM
    clear e P PB hB hI V MS Wy ewz ewi hz HS
    go_enter Try.func33, Try.ntmps33
    go_wp2_with (first | (go_at_call 27; refine (HV.out _).mono ?_; rintro e w1 ⟨rfl, hw1⟩; subst hw1))
    go_ret
    exact ⟨rfl, HM.out⟩
  have hd : decide (1152921504606846976 < n) = false := decide_eq_false b
  have e : fmin m o n = ({ m with my := updB m.my o (max (m.my o) n) }, 0) := if_neg (by omega)
  rw [e]
  have k12 : (w.alloc (bxO 8 id n o)).cell? ⟨x, 12 + wz, none⟩ = some (.int .i64 (m.my o)) := by rw [PB.cell, ewz]; cases o <;> rfl
  have f12 := PB.free (12 + wz)
  obtain ⟨z, hmx⟩ : ∃ z, max (m.my o) n = z := ⟨_, rfl⟩
  rw [hmx]
  have R1 : MDo w ((w.alloc (bxO 8 id n o)).setCell ⟨x, 12 + wz, none⟩ (.int .i64 z)) x base F { m with my := updB m.my o z } := ⟨⟨lv, PB.setK (12 + wz) (.int .i64 z) (by rw [ewz]; exact mc_set m F lv o _) rfl⟩, PB.chK (ChT.of_below hB) (12 + wz) (.int .i64 z)⟩
  unfold bxO at *
  have HV : Hid _ := V
  have HM : Hid _ := And.intro Wy R1
  clear e P PB hB hI V MS Wy ewz ewi HS R1
  generalize m.my o = my at *
  go_enter Try.func33, Try.ntmps33
  go_wp2_with (first | (go_at_call 27; refine (HV.out _).mono ?_; rintro e w1 ⟨rfl, hw1⟩; subst hw1) | (go_at_call 44; refine (HM.out.1 _).mono ?_; rintro e w1 ⟨rfl, hw1⟩; subst hw1))
  go_region
  go_wp2
  go_ret
  exact ⟨rfl, MDo.drew HM.out.2⟩
end Go.Proofs.Ythjakbpcpfmbjaa

namespace Go.Proofs.Ythjakbpcpfmbjaa
open Go.RowKit
set_option linter.unusedVariables false
set_option linter.unusedSimpArgs false

/-- A row of one frame, made behind. -/
theorem OM.lit1 {x base q : Nat} {w W : World} {F : FS} {m : FX} {r1 : Array Value} (h : OM q x base w W F m (.slice none 0 0) [] r1) (f : Int × Int × Int) (g : Nat) (hg : W.heap.size = g) : OM q x base w (W.alloc (.cells (frC f).toArray 38)) F m (.slice (some ⟨g, 0, none⟩) 1 1) [f] r1 := by
  subst hg
  obtain ⟨lv, P⟩ := h.P
  have hB : Below W.heap.size W (W.alloc (.cells (frC f).toArray 38)) := (Below.refl _ _).alloc (Nat.le_refl _) _
  exact ⟨⟨lv, P.below hB⟩, h.C.alloc _, (hB.block q (Array.getElem?_eq_some_iff.1 h.h1).1).trans h.h1, GOwns.lit1 _ 8 W _ (frC f) rfl (frC_flat [f] _ (by simp)).2 h.C.size⟩

set_option maxRecDepth 20000 in
set_option maxHeartbeats 4000000 in
theorem overM (x base : Nat) (F : FS) (m : FX) (i : Nat) (id : Int) (w : World) (h : MRep w x base F m) (hI : FXI F i m) (hi : i ≤ 400) (hbase : base ≤ w.heap.size) :
    Calls Try.prog 32 #[.pointer (some ⟨x, 0, none⟩), .int .i64 id] w fun e w' => ∃ fv, e = .returned (.agg #[.int .i64 (fend F m id).2.code, .int .i64 (fend F m id).2.id, .int .i64 (fend F m id).2.cnt, fv]) ∧ GOwns 38 8 w' w.heap.size fv ((fend F m id).2.fr.map frC) ∧ MDo w w' x base F (fend F m id).1 := by
  have T0 : OM w.heap.size x base w (w.alloc obZ) F m (.slice none 0 0) [] #[.int .i64 0, .int .i64 0, .int .i64 0, .slice none 0 0] := OM.new h 0
  obtain ⟨lv, P⟩ := h
  have hB : Below w.heap.size w (w.alloc obZ) := (Below.refl _ _).alloc (Nat.le_refl _) _
  have PB := P.below hB
  have hlen := hI.len_le hi
  have PT := specIdParts id (w.alloc obZ)
  have AT := atM x base F m lv id (w.alloc obZ) PB (by omega)
  have c0 : (w.alloc obZ).cell? ⟨x, 0, none⟩ = some (.bool F.sv) := PB.cell 0
  have REF : ¬ lasts F m.L id → fend F m id = (m, ⟨7, 0, 0, []⟩) := fun q => if_neg q
  by_cases a0 : id < 0 ∨ 4611686018427387904 ≤ id
  · rw [REF (fun q => by have := hI.valid hi q.1; omega)]
    rw [show ptC id = 1 from if_pos a0] at PT
    clear REF a0
    generalize ptS id = q0 at *
    generalize ptO id = q1 at *
    generalize ptP id = q2 at *
    unfold obZ at *
    have HH : Hid _ := T0
    have HP : Hid _ := And.intro PT AT
    clear PB hB hI T0 P PT AT
    go_enter Try.func32, Try.ntmps32
    go_wp2_with (first | (go_at_call 48; refine (HP.out.1).mono ?_; rintro e wp ⟨rfl, hwp⟩; subst hwp) | (go_at_call 49; refine (HP.out.2).mono ?_; rintro e w1 ⟨rfl, hw1⟩; subst hw1) | (refine wpList_store_row rfl 35 _ _ rfl w.heap.size #[.int .i64 7, .int .i64 0, .int .i64 0, .slice none 0 0] rfl rfl 35 _ (HH.out).h1 infoFObsM rfl (by simp [Value.oneCell']) ?_))
    have T := (HH.out).row (Nat.le_refl _) #[.int .i64 7, .int .i64 0, .int .i64 0, .slice none 0 0]
    try simp only [Exit.inBlock, Exit.then]
    refine bodyPost_ret (v := .agg #[.int .i64 7, .int .i64 0, .int .i64 0, .slice none 0 0]) ?_ rfl ?_
    · exact results_cell_row (t := 35) rfl _ _ (w.heap.size) _ (fr := (0, 0)) _ rfl T.h1 Try.underlying35 rfl infoFObsM
    · exact ⟨_, rfl, T.f, T.P, T.C⟩

  rw [show ptC id = 0 from if_neg a0] at PT
  by_cases a1 : ptS id = F.sv
  · rw [REF (fun q => q.2.1 a1)]
    have hz1 : (ptS id == F.sv) = true := by simpa using a1
    clear REF a0 a1
    generalize ptS id = q0 at *
    generalize ptO id = q1 at *
    generalize ptP id = q2 at *
    unfold obZ at *
    have HH : Hid _ := T0
    have HP : Hid _ := And.intro PT AT
    clear PB hB hI T0 P PT AT
    go_enter Try.func32, Try.ntmps32
    go_wp2_with (first | (go_at_call 48; refine (HP.out.1).mono ?_; rintro e wp ⟨rfl, hwp⟩; subst hwp) | (go_at_call 49; refine (HP.out.2).mono ?_; rintro e w1 ⟨rfl, hw1⟩; subst hw1) | (refine wpList_store_row rfl 35 _ _ rfl w.heap.size #[.int .i64 7, .int .i64 0, .int .i64 0, .slice none 0 0] rfl rfl 35 _ (HH.out).h1 infoFObsM rfl (by simp [Value.oneCell']) ?_))
    have T := (HH.out).row (Nat.le_refl _) #[.int .i64 7, .int .i64 0, .int .i64 0, .slice none 0 0]
    try simp only [Exit.inBlock, Exit.then]
    refine bodyPost_ret (v := .agg #[.int .i64 7, .int .i64 0, .int .i64 0, .slice none 0 0]) ?_ rfl ?_
    · exact results_cell_row (t := 35) rfl _ _ (w.heap.size) _ (fr := (0, 0)) _ rfl T.h1 Try.underlying35 rfl infoFObsM
    · exact ⟨_, rfl, T.f, T.P, T.C⟩

  have hz1 : (ptS id == F.sv) = false := by simpa using a1
  by_cases a2n : m.L.length ≤ ixf m.L id
  · have a2 : ¬ ixf m.L id < m.L.length := by omega
    rw [REF (fun q => a2 q.1)]
    rw [show atV m.L id = -1 from if_neg a2] at AT
    clear REF a0 a1 a2 a2n
    generalize ptS id = q0 at *
    generalize ptO id = q1 at *
    generalize ptP id = q2 at *
    unfold obZ at *
    have HH : Hid _ := T0
    have HP : Hid _ := And.intro PT AT
    clear PB hB hI T0 P PT AT
    go_enter Try.func32, Try.ntmps32
    go_wp2_with (first | (go_at_call 48; refine (HP.out.1).mono ?_; rintro e wp ⟨rfl, hwp⟩; subst hwp) | (go_at_call 49; refine (HP.out.2).mono ?_; rintro e w1 ⟨rfl, hw1⟩; subst hw1) | (refine wpList_store_row rfl 35 _ _ rfl w.heap.size #[.int .i64 7, .int .i64 0, .int .i64 0, .slice none 0 0] rfl rfl 35 _ (HH.out).h1 infoFObsM rfl (by simp [Value.oneCell']) ?_))
    have T := (HH.out).row (Nat.le_refl _) #[.int .i64 7, .int .i64 0, .int .i64 0, .slice none 0 0]
    try simp only [Exit.inBlock, Exit.then]
    refine bodyPost_ret (v := .agg #[.int .i64 7, .int .i64 0, .int .i64 0, .slice none 0 0]) ?_ rfl ?_
    · exact results_cell_row (t := 35) rfl _ _ (w.heap.size) _ (fr := (0, 0)) _ rfl T.h1 Try.underlying35 rfl infoFObsM
    · exact ⟨_, rfl, T.f, T.P, T.C⟩

  have a2 : ixf m.L id < m.L.length := by omega
  clear a2n
  rw [show atV m.L id = (ixf m.L id : Int) from if_pos a2] at AT
  have h0 : 0 < m.L.length := by omega
  obtain ⟨lb, cap, elv, hne, hlb, ⟨cur, hg⟩, hcell⟩ := PB.at' h0
  subst elv
  have c9 : (w.alloc obZ).cell? ⟨x, 9, none⟩ = some (.slice (some ⟨lb, 0, none⟩) m.L.length cap) := PB.cell 9
  have a6 : (w.alloc obZ).cell? ⟨lb, ixf m.L id * 7 + 6, none⟩ = some (.bool (sxAt m.L id).ov) := hcell _ a2 6 (by omega)
  have fz := bk_free hg (ixf m.L id * 7 + 6)
  have hdj : decide ((ixf m.L id : Int) < 0) = false := decide_eq_false (by omega)
  by_cases a3 : (sxAt m.L id).ov = true
  · rw [REF (fun q => by have z := q.2.2; rw [a3] at z; cases z)]
    rw [a3] at a6
    have hjl := a2
    clear REF a0 a1 a2 a3 hcell hg h0
    generalize ptS id = q0 at *
    generalize ptO id = q1 at *
    generalize ptP id = q2 at *
    obtain ⟨j, ej⟩ : ∃ j, j = ixf m.L id := ⟨_, rfl⟩
    obtain ⟨ln, eln⟩ : ∃ ln, ln = m.L.length := ⟨_, rfl⟩
    rw [← ej] at AT a6 fz hdj hjl
    rw [← eln] at c9 hjl hlen
    clear ej eln
    unfold obZ at *
    have HH : Hid _ := T0
    have HP : Hid _ := And.intro PT AT
    clear PB hB hI T0 P PT AT
    go_enter Try.func32, Try.ntmps32
    go_wp2_with (first | (go_at_call 48; refine (HP.out.1).mono ?_; rintro e wp ⟨rfl, hwp⟩; subst hwp) | (go_at_call 49; refine (HP.out.2).mono ?_; rintro e w1 ⟨rfl, hw1⟩; subst hw1) | (refine wpList_store_row rfl 35 _ _ rfl w.heap.size #[.int .i64 7, .int .i64 0, .int .i64 0, .slice none 0 0] rfl rfl 35 _ (HH.out).h1 infoFObsM rfl (by simp [Value.oneCell']) ?_))
    have T := (HH.out).row (Nat.le_refl _) #[.int .i64 7, .int .i64 0, .int .i64 0, .slice none 0 0]
    try simp only [Exit.inBlock, Exit.then]
    refine bodyPost_ret (v := .agg #[.int .i64 7, .int .i64 0, .int .i64 0, .slice none 0 0]) ?_ rfl ?_
    · exact results_cell_row (t := 35) rfl _ _ (w.heap.size) _ (fr := (0, 0)) _ rfl T.h1 Try.underlying35 rfl infoFObsM
    · exact ⟨_, rfl, T.f, T.P, T.C⟩

  have a3f : (sxAt m.L id).ov = false := by simpa using a3
  rw [a3f] at a6
  have htin : 0 ≤ m.tin (ptO id) ∧ m.tin (ptO id) ≤ 64 + 400 := by
    have q1 := hI.th (ptO id)
    have q2 := hI.tin (ptO id)
    omega
  have e : fend F m id = ({ m with L := sxSet m.L id { sxAt m.L id with ov := true }, tin := updB m.tin (ptO id) (m.tin (ptO id) + 1) }, ⟨0, 0, 0, [(18, m.tin (ptO id) + 1, if ptO id then 1 else 0)]⟩) := (if_pos ⟨a2, a1, a3f⟩).trans (if_neg (by omega))
  rw [e]
  have hq : w.heap.size ≠ lb := bk_apart (heap_alloc_new w obZ) hg (by decide)
  have hqx : w.heap.size ≠ x := bk_apart (heap_alloc_new w obZ) PB.bk (by decide)
  have Wy := fun u => wayM (ptO id) u
  obtain ⟨wz, ewz⟩ : ∃ z : Nat, z = if ptO id then 1 else 0 := ⟨_, rfl⟩
  have ewi : (if ptO id then (1 : Int) else 0) = (wz : Int) := by rw [ewz]; cases ptO id <;> rfl
  rw [ewi] at Wy ⊢
  have hz : (wz : Int) < 2 ∧ wz < 2 := by rw [ewz]; cases ptO id <;> simp
  have P1 := PB.setA a2 rfl 6 (by omega) (.bool true) { sxAt m.L id with ov := true } rfl
  have C1 := PB.chA (ChT.of_below hB) h0 rfl (ixf m.L id * 7 + 6) (.bool true)
  have P2 := P1.setK (m' := { m with L := sxSet m.L id { sxAt m.L id with ov := true }, tin := updB m.tin (ptO id) (m.tin (ptO id) + 1) }) (15 + wz) (.int .i64 (m.tin (ptO id) + 1)) (by rw [ewz]; exact tc_set { m with L := sxSet m.L id { sxAt m.L id with ov := true } } F _ (ptO id) _) rfl
  have C2 := P1.chK C1 (15 + wz) (.int .i64 (m.tin (ptO id) + 1))
  have H1 := (bk_other (w := (w.alloc obZ).setCell ⟨lb, ixf m.L id * 7 + 6, none⟩ (.bool true)) hqx (15 + wz) (.int .i64 (m.tin (ptO id) + 1))).trans ((bk_other hq (ixf m.L id * 7 + 6) (.bool true)).trans (heap_alloc_new w obZ))
  have R1 := OM.ofMR P2 C2 H1
  have k15 : (w.alloc obZ).cell? ⟨x, 15 + wz, none⟩ = some (.int .i64 (m.tin (ptO id))) := by rw [PB.cell, ewz]; cases ptO id <;> rfl
  have f15 := PB.free (15 + wz)
  have hjl := a2
  unfold obZ at *
  have HH : Hid _ := R1
  have HP : Hid _ := And.intro PT (And.intro AT Wy)
  clear e REF a0 a1 a2 a3 a3f hcell hg h0 P1 C1 P2 C2 H1 R1 PT AT Wy ewz ewi hI PB hB T0 P
  generalize m.tin (ptO id) = tn at *
  generalize ptS id = q0 at *
  generalize ptO id = q1 at *
  generalize ptP id = q2 at *
  generalize ixf m.L id = j at *
  obtain ⟨ln, eln⟩ : ∃ ln, ln = m.L.length := ⟨_, rfl⟩
  rw [← eln] at c9 hjl hlen
  clear eln
  go_enter Try.func32, Try.ntmps32
  go_wp2_with (first | (go_at_call 48; refine (HP.out.1).mono ?_; rintro e wp ⟨rfl, hwp⟩; subst hwp) | (go_at_call 49; refine (HP.out.2.1).mono ?_; rintro e w1 ⟨rfl, hw1⟩; subst hw1) | (go_at_call 44; refine (HP.out.2.2 _).mono ?_; rintro e w1 ⟨rfl, hw1⟩; subst hw1))
  go_region
  go_wp2_with fail
  have T := OM.drew (OM.lit1 (OM.s (Nat.le_refl _) (OM.s (Nat.le_refl _) (OM.s (Nat.le_refl _) (OM.s (Nat.le_refl _) HH.out 0 (.int .i64 0)) 1 (.int .i64 0)) 2 (.int .i64 0)) 3 (.slice (some ⟨w.heap.size + 1, 0, none⟩) 1 1)) (18, tn + 1, (wz : Int)) (w.heap.size + 1) (by simp only [setCell_sizeT]; simp))
  try simp only [Exit.inBlock, Exit.then]
  refine bodyPost_ret (v := .agg #[.int .i64 0, .int .i64 0, .int .i64 0, .slice (some ⟨w.heap.size + 1, 0, none⟩) 1 1]) ?_ rfl ?_
  · exact results_cell_row (t := 35) rfl _ _ (w.heap.size) _ (fr := (0, 0)) _ rfl T.h1 Try.underlying35 rfl infoFObsM
  · exact ⟨_, rfl, T.f, T.P, T.C⟩
end Go.Proofs.Ythjakbpcpfmbjaa
