import Derived.Test.YtiiefhpkkjocbakDoorIDigest
import Derived.Test.YtiiefhpkkjocbakDoorILong
import Derived.Test.YtiiefhpkkjocbakDoorRetryS
namespace Go.Proofs.YtiiefhpkkjocbakDoor
open Go.RowKit
set_option linter.unusedVariables false

theorem infoR8 : (Tryd.prog.info? 58).map (·.size) = some 8 := by kernel_rfl
theorem infoR8s (xs : List Int) (h : xs.length = 8) : (Tryd.prog.info? 58).map (·.size) = some (u8s xs).toArray.size := by rw [infoR8]; simp [u8s_length, h]
abbrev Z8r : Obj := .cells #[.int .u8 0, .int .u8 0, .int .u8 0, .int .u8 0, .int .u8 0, .int .u8 0, .int .u8 0, .int .u8 0] 58 (0, 0)
abbrev KeyF : Obj := .cells #[.int .u8 114, .int .u8 101, .int .u8 116, .int .u8 114, .int .u8 121] 5 (5, 6)
theorem parts3 {w : World} {v1 v2 v3 : Value} {x1 x2 x3 : List Int} (t : TypeId) (h1 : Row w .u8 v1 x1) (h2 : Row w .u8 v2 x2) (h3 : Row w .u8 v3 x3) :
    Parts (w.alloc (.cells #[v1, v2, v3] t)) (.slice (some ⟨w.heap.size, 0, none⟩) 3 3) [x1, x2, x3] := by
  have hb := (Below.refl w.heap.size w).alloc (Nat.le_refl _) (.cells #[v1, v2, v3] t)
  refine parts_at (vs := [v1, v2, v3]) (MapKept.heap_alloc w _).1 rfl (fun j hj => ?_)
  rcases (show j = 0 ∨ j = 1 ∨ j = 2 by simp at hj; omega) with rfl | rfl | rfl
  · exact ⟨v1, rfl, h1.below hb⟩
  · exact ⟨v2, rfl, h2.below hb⟩
  · exact ⟨v3, rfl, h3.below hb⟩
theorem bytes_getD3 {x1 x2 x3 : List Int} (h1 : Bytes x1) (h2 : Bytes x2) (h3 : Bytes x3) (j : Nat) : Bytes ([x1, x2, x3].getD j []) := by
  match j with
  | 0 => exact h1
  | 1 => exact h2
  | 2 => exact h3
  | n + 3 => intro x h; simp [List.getD] at h
theorem row_partr {w : World} {g t off n c : Nat} {fr : Nat × Nat} {xs : List Int} (h : w.heap[g]? = some (.cells (u8s xs).toArray t fr)) (hn : off + n ≤ xs.length) (hc : n ≤ c) (hm : c ≤ maxLen) : Row w .u8 (.slice (some ⟨g, off, none⟩) n c) ((xs.drop off).take n) := by
  have := row_cut (w := w) (k := .u8) (xs := xs) (b := g) (off := 0) (cap := 0) (at' := off) (n := n) (cap' := c) (Array.getElem?_eq_some_iff.1 h).1 (fun j hj => ?_) hn ⟨hc, hm⟩
  · rwa [Nat.zero_add] at this
  · rw [Nat.zero_add, blkS_cell h]
    simp [u8s, List.getD, hj]
set_option maxRecDepth 20000 in
set_option maxHeartbeats 4000000 in
theorem iretTag (ao ap : Option Addr) (n m po pp : Nat) (o p : List Int) (w : World) (ro : Row w .u8 (.slice ao n po) o) (rp : Row w .u8 (.slice ap m pp) p) (eo : o.length = n) (ep : p.length = m) (hn : n ≤ 8) (hm : m ≤ 4096) (bo : Bytes o) (bp : Bytes p) :
    Calls Tryd.prog 41 #[.slice ao n po, .slice ap m pp] w fun e w' => e = .returned (.agg (u8s (retV o p)).toArray) ∧ Below w.heap.size w w' := by
  have e1 := wrap8 n hn
  have B0 := (Below.refl w.heap.size w).alloc (Nat.le_refl _) Z8r
  have B1 := B0.alloc B0.size KeyF
  have B2 := B1.alloc B1.size (.cells #[.int .u8 (n : Int)] 5)
  have s0 : (w.alloc Z8r).heap.size = w.heap.size + 1 := by simp
  have s1 : ((w.alloc Z8r).alloc KeyF).heap.size = w.heap.size + 1 + 1 := by simp
  have s2 : (((w.alloc Z8r).alloc KeyF).alloc (.cells #[.int .u8 (n : Int)] 5)).heap.size = w.heap.size + 1 + 1 + 1 := by simp
  have kc : (convert 22 22 (.slice (some ⟨w.heap.size + 1, 0, none⟩) 5 5)).run Tryd.prog ((w.alloc Z8r).alloc (.cells #[.int .u8 114, .int .u8 101, .int .u8 116, .int .u8 114, .int .u8 121] 5)) = .ok (.slice (some ⟨w.heap.size + 1, 0, none⟩) 5 5) ((w.alloc Z8r).alloc KeyF) := by
    have h := kconst (w.alloc Z8r) #[.int .u8 114, .int .u8 101, .int .u8 116, .int .u8 114, .int .u8 121] 5 5
    rw [s0] at h
    exact h
  have r1 := one_row ((w.alloc Z8r).alloc KeyF) (n : Int)
  rw [s1] at r1
  have HP := parts3 22 r1 (ro.below B2) (rp.below B2)
  rw [s2] at HP
  have B3 := B2.alloc B2.size (.cells #[.slice (some ⟨w.heap.size + 1 + 1, 0, none⟩) 1 1, .slice ao n po, .slice ap m pp] 22)
  have hk : ((((w.alloc Z8r).alloc KeyF).alloc (.cells #[.int .u8 (n : Int)] 5)).alloc (.cells #[.slice (some ⟨w.heap.size + 1 + 1, 0, none⟩) 1 1, .slice ao n po, .slice ap m pp] 22)).heap[w.heap.size + 1]? = some KeyF := by
    rw [Below.heap_alloc _ _ _ (by rw [s2]; omega), Below.heap_alloc _ _ _ (by rw [s1]; omega), ← s0]
    exact (MapKept.heap_alloc _ _).1
  have hz : ((((w.alloc Z8r).alloc KeyF).alloc (.cells #[.int .u8 (n : Int)] 5)).alloc (.cells #[.slice (some ⟨w.heap.size + 1 + 1, 0, none⟩) 1 1, .slice ao n po, .slice ap m pp] 22)).heap[w.heap.size]? = some Z8r := by
    rw [Below.heap_alloc _ _ _ (by rw [s2]; omega), Below.heap_alloc _ _ _ (by rw [s1]; omega), Below.heap_alloc _ _ _ (by rw [s0]; omega)]
    exact (MapKept.heap_alloc _ _).1
  have ef : ([[(n : Int)], o, p] : List (List Int)).flatten = ((o.length : Int) :: o) ++ p := by rw [eo]; simp
  have CP := iparts _ _ retryK _ _ (key_row hk) retryK_bytes (by decide) HP (bytes_getD3 (bytes_cons (by omega) (by omega) (by intro x hx; simp at hx)) bo bp) (by simp; omega) (by simp)
  rw [ef] at CP
  have hdl := digV_length retryK (((o.length : Int) :: o) ++ p)
  have hz3 : w.heap.size < ((((w.alloc Z8r).alloc KeyF).alloc (.cells #[.int .u8 (n : Int)] 5)).alloc (.cells #[.slice (some ⟨w.heap.size + 1 + 1, 0, none⟩) 1 1, .slice ao n po, .slice ap m pp] 22)).heap.size := (Array.getElem?_eq_some_iff.1 hz).1
  have HH : Hid _ := And.intro CP (And.intro B3 (And.intro hz (And.intro hz3 hdl)))
  clear CP B0 B1 B2 s0 s1 s2 r1 HP B3 hk hz ro rp eo ep bo bp ef hdl hz3
  go_enter Tryd.func41, Tryd.ntmps41
  go_wp2_with fail
  go_at_call 55
  refine HH.out.1.mono ?_
  rintro e w1 ⟨rfl, b1⟩
  have H1 : Hid _ := And.intro (HH.out.2.1.trans (b1.mono HH.out.2.1.size)) ((b1.block w.heap.size HH.out.2.2.2.1).trans HH.out.2.2.1)
  have z1 : w.heap.size < w1.heap.size := (Array.getElem?_eq_some_iff.1 H1.out.2).1
  clear b1
  obtain ⟨D, eD⟩ : ∃ D, D = digV retryK (((o.length : Int) :: o) ++ p) := ⟨_, rfl⟩
  have HD : Hid (D.length = 16 ∧ retV o p = D.take 8) := And.intro (by rw [eD]; exact HH.out.2.2.2.2) (by rw [eD]; rfl)
  rw [← eD]
  clear eD
  go_wp2_with (refine wpList_store_at rfl 82 (.tmp 5) (.tmp 16) rfl w1.heap.size _ rfl rfl 82 _ (MapKept.heap_alloc w1 _).1 (infoBs _ HD.out.1) (by simp [u8s_length, HD.out.1]) (u8s_all _) ?_; intro w2 h2 m2)
  have C2 : Below w.heap.size w w2 := (H1.out.1.alloc H1.out.1.size _).trans (m2.below H1.out.1.size)
  have z2 : w1.heap.size < w2.heap.size := (Array.getElem?_eq_some_iff.1 h2).1
  have k2 : w2.heap[w.heap.size]? = some Z8r := (m2.block w.heap.size (fun e => by have := Option.some.inj e; omega)).trans ((Below.heap_alloc _ _ _ z1).trans H1.out.2)
  have R2 : Hid (Row (w2.alloc Z8r).drew .u8 (.slice (some ⟨w1.heap.size, 0, none⟩) 16 16) D) := by
    show Row _ _ _ _
    have h := row_partr (w := (w2.alloc Z8r).drew) (off := 0) (n := 16) (c := 16) ((Below.heap_alloc w2 Z8r _ z2).trans h2) (by rw [HD.out.1]; decide) (by decide) (by decide)
    rwa [List.drop_zero, List.take_of_length_le (by rw [HD.out.1]; decide)] at h
  have G2 : Hid ((w2.alloc Z8r).drew.heap[w2.heap.size]? = some (.cells (u8s (List.replicate 8 0)).toArray 58 (0, 0))) := (MapKept.heap_alloc w2 Z8r).1
  have H2 : Hid _ := And.intro (C2.alloc C2.size Z8r) ((Below.heap_alloc w2 Z8r _ (Nat.lt_trans z1 z2)).trans k2)
  have z2w : w.heap.size ≤ w2.heap.size := C2.size
  clear h2 m2 C2 k2
  go_region_law (refine step_copy_at rfl (.tmp 17) (.tmp 18) 22 22 rfl 5 Tryd.underlying22 infoU8s w2.heap.size 0 8 8 _ rfl rfl D R2.out (by rw [HD.out.1]; decide) (List.replicate 8 0) 58 G2.out 8 (by rw [HD.out.1]; rfl) (by simp) ?_; intro w3 h3 m3)
  all_goals
    have e3 : splice (List.replicate 8 (0 : Int)) 0 (D.take 8) = retV o p := by
      rw [HD.out.2]
      simp [splice, HD.out.1]
    rw [e3] at h3
    have C3 : Below w.heap.size w w3 := (below_drewN H2.out.1 1).trans (m3.below z2w)
    have k3 : w3.heap[w.heap.size]? = some Z8r := (m3.block w.heap.size (fun e => by have := Option.some.inj e; omega)).trans H2.out.2
    have H3 : Hid _ := And.intro C3 (And.intro h3 k3)
    clear e3 h3 m3 C3 k3
    go_wp2_with (first
      | (refine wpList_load_row rfl 58 (.tmp 6) rfl w2.heap.size rfl 58 _ (0, 0) _ H3.out.2.1 Tryd.underlying58 rfl (infoR8s _ (retV_length _ _)) ?_)
      | (refine wpList_store_at rfl 58 (.tmp 4) (.tmp 20) rfl w.heap.size _ rfl rfl 58 _ H3.out.2.2 (infoR8s _ (retV_length _ _)) (by simp [u8s_length, retV_length]) (u8s_all _) ?_; intro w4 h4 m4))
    try simp only [Exit.inBlock, Exit.then]
    refine bodyPost_ret (v := .agg (u8s (retV o p)).toArray) ?_ rfl ?_
    · exact results_cell_row (t := 58) rfl _ _ w.heap.size _ (fr := (0, 0)) _ rfl h4 Tryd.underlying58 rfl (infoR8s _ (retV_length _ _))
    · exact ⟨rfl, H3.out.1.trans (m4.below (Nat.le_refl _))⟩
end Go.Proofs.YtiiefhpkkjocbakDoor
