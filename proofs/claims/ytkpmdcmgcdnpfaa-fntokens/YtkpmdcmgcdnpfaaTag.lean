import Derived.Test.YtkpmdcmgcdnpfaaStrm
namespace Go.Proofs.Ytkpmdcmgcdnpfaa
open Go.RowKit
set_option linter.unusedVariables false

def ff4 : List Int := [255, 255, 255, 255]
/-- The tag of a cipher text. -/
def tagV (ks nn hd cp : List Int) : List Int := (digV ks (nn ++ ff4 ++ be (hd.length : Int) 4 ++ hd ++ cp)).take 8
theorem tagV_length (ks nn hd cp : List Int) : (tagV ks nn hd cp).length = 8 := by simp [tagV, digV_length]
theorem tagV_bytes (ks nn hd cp : List Int) : Bytes (tagV ks nn hd cp) := fun x hx => digV_bytes _ _ x (List.mem_of_mem_take hx)
theorem ff4_bytes : Bytes ff4 := by
  intro x hx
  have : x = 255 := by simpa [ff4] using hx
  subst this
  decide
theorem ff4_row (w : World) : Row (w.alloc (.cells #[.int .u8 255, .int .u8 255, .int .u8 255, .int .u8 255] 5)) .u8 (.slice (some ⟨w.heap.size, 0, none⟩) 4 4) ff4 := by
  refine Or.inr ⟨w.heap.size, 0, 4, rfl, by simp, ⟨Nat.le_refl _, by unfold maxLen; decide⟩, fun j hj => ?_⟩
  have hj4 : j < 4 := hj
  have := (MapKept.heap_alloc w (.cells #[.int .u8 255, .int .u8 255, .int .u8 255, .int .u8 255] 5)).1
  simp only [World.cell?, this]
  match j, hj4 with
  | 0, _ | 1, _ | 2, _ | 3, _ => rfl
theorem owns_cap {w : World} {base g cap n : Nat} {xs : List Value} (h : w.ownsRow base 5 1 (.slice (some ⟨g, 0, none⟩) n cap) n xs) : n ≤ cap ∧ cap ≤ 9223372036854775807 := by
  rcases h.2 with ⟨e, _⟩ | ⟨g', cap', cur, e, _, _, h1, h2, _⟩
  · cases e
  · cases e; unfold maxLen at h2; omega
theorem row_take {w : World} {base g cap m n : Nat} {xs : List Int} (h : w.ownsRow base 5 1 (.slice (some ⟨g, 0, none⟩) n cap) n (xs.map (Value.int .u8))) (hm : m ≤ n) (hm0 : 0 < m) : Row w .u8 (.slice (some ⟨g, 0, none⟩) m cap) (xs.take m) := by
  have hl : xs.length = n := by simpa using h.1
  have hcap : n ≤ cap ∧ cap ≤ maxLen := by
    rcases h.2 with ⟨e, _⟩ | ⟨g', cap', cur, e, _, _, h1, h2, _⟩
    · cases e
    · cases e; exact ⟨h1, h2⟩
  have hlt : g < w.heap.size := (h.lt g rfl).2
  have hc : ∀ j, j < xs.length → w.cell? ⟨g, 0 + j, none⟩ = some (.int .u8 (xs.getD j 0)) := by
    intro j hj
    have := h.cellAt j (by omega)
    rw [Nat.zero_add, this]
    simp [List.getD, hj]
  have := row_cut (at' := 0) (n := m) (cap' := cap) (cap := cap) hlt hc (by omega) ⟨by omega, hcap.2⟩
  simpa using this

/-- What an append onto a row of the call's own leaves alone. -/
theorem tag_grown {w wx w' : World} {v : Value} {n : Nat} {xs : List Value} {o : Obj} (C : Below w.heap.size w wx) (K : Book wx [(w.heap.size, o)]) (ho : wx.ownsRow (w.heap.size + 1) 5 1 v n xs) (g : wx.grownBy w' v.ownBlock) :
    Below w.heap.size w w' ∧ Book w' [(w.heap.size, o)] := by
  refine ⟨C.grown g C.size (fun k hk => by have := (ho.lt k hk).1; omega), K.grown g (fun b o' hm e => ?_)⟩
  have hm' : b = w.heap.size := by simp at hm; exact hm.1
  have := (ho.lt b e).1
  omega

set_option maxRecDepth 20000 in
set_option maxHeartbeats 4000000 in
theorem tagC (v nv hv cv : Value) (k : K4) (nn hd cp : List Int) (w : World) (hk : KRow w v k) (hn : Row w .u8 nv nn) (hh : Row w .u8 hv hd) (hc : Row w .u8 cv cp) (bk : Bytes k.b) (bn : Bytes nn) (bh : Bytes hd) (bc : Bytes cp)
    (lk : k.b.length ≤ 1048576) (ln : nn.length ≤ 1048576) (lh : hd.length ≤ 1048576) (lc : cp.length ≤ 1048576) :
    Calls Try.prog 44 #[v, nv, hv, cv] w fun e w' => ∃ r, e = .returned r ∧ Row w' .u8 r (tagV k.b nn hd cp) ∧ Below w.heap.size w w' := by
  obtain ⟨v0, v1, v2, v3, rfl, r0, r1, r2, r3⟩ := hk
  obtain ⟨aoh, cph, eh⟩ := hh.form
  subst eh
  have K0 := (Book.nil w).add (.cells #[v0, v1, v2, v3] 38)
  have B0 : Below w.heap.size w (w.alloc (.cells #[v0, v1, v2, v3] 38)) := (Below.refl _ _).alloc (Nat.le_refl _) _
  have n1 : Below w.heap.size w ((w.alloc (.cells #[v0, v1, v2, v3] 38)).alloc (.cells #[.int .u8 255, .int .u8 255, .int .u8 255, .int .u8 255] 5)) := B0.alloc B0.size _
  have K1 := K0.below ((Below.refl _ _).alloc (Nat.le_refl _) (.cells #[.int .u8 255, .int .u8 255, .int .u8 255, .int .u8 255] 5))
  have F4 := ff4_row (w.alloc (.cells #[v0, v1, v2, v3] 38))
  rw [World.size_alloc] at F4
  obtain ⟨nh, enh⟩ : ∃ n, n = hd.length := ⟨_, rfl⟩
  rw [← enh] at hh lh ⊢
  have HH : Hid _ := And.intro (And.intro r1 (And.intro hn (And.intro hh hc))) (And.intro (And.intro bk (And.intro bn (And.intro bh bc))) (And.intro lk (And.intro ln (And.intro lc enh))))
  have HW : Hid _ := And.intro n1 (And.intro K1 F4)
  clear r0 r1 r2 r3 hn hh hc bk bn bh bc lk ln lc enh K0 B0 n1 K1 F4
  go_enter Try.func44, Try.ntmps44
  go_wp2_with fail
  go_at_call 52
  refine (catC nv _ nn ff4 _ (HH.out.1.2.1.below HW.out.1) HW.out.2.2 (by have := HH.out.2.2.2.1; omega) (by decide)).mono ?_
  rintro e w1 ⟨q1, rfl, o1, b1⟩
  have L1 : ((w.alloc (.cells #[v0, v1, v2, v3] 38)).alloc (.cells #[.int .u8 255, .int .u8 255, .int .u8 255, .int .u8 255] 5)).heap.size = w.heap.size + 2 := by simp
  have o1' := owns_mono o1 (base' := w.heap.size + 1) (by omega)
  have C1 := HW.out.1.trans (b1.mono HW.out.1.size)
  have K1 := HW.out.2.1.below b1
  have z1 : w.heap.size + 1 ≤ w1.heap.size := K1.lt (b := w.heap.size) (o := .cells #[v0, v1, v2, v3] 38) (by simp)
  have H1 : Hid _ := And.intro o1' (And.intro C1 K1)
  clear o1 o1' b1 C1 K1 L1
  go_wp2_with fail
  go_at_call 22
  refine (digits 4 (nh : Int) _ (by omega) (by omega) (by decide)).mono ?_
  rintro e w2 ⟨q2, rfl, o2, b2⟩
  have z2 : w1.heap.size ≤ w2.heap.size := b2.size
  have o1 := owns_below H1.out.1 b2
  have C2 := H1.out.2.1.trans (b2.mono H1.out.2.1.size)
  have K2 := H1.out.2.2.below b2
  have H2 : Hid _ := And.intro o1 (And.intro C2 (And.intro K2 (row_of_owns o2)))
  have l2 : nn.length + ff4.length + (be (nh : Int) 4).length ≤ 140737488355328 := by rw [be_length]; have := HH.out.2.2.2.1; show nn.length + 4 + 4 ≤ _; omega
  have l3 : nn.length + ff4.length + (be (nh : Int) 4).length + hd.length ≤ 140737488355328 := by rw [be_length]; have := HH.out.2.2.2.1; have := HH.out.2.2.2.2.2; show nn.length + 4 + 4 + _ ≤ _; omega
  have HL : Hid _ := And.intro l2 l3
  clear o1 o2 b2 C2 K2 l2 l3
  go_wp2_with (first
    | (at_builtin; refine wpList_append_row rfl (.tmp 13) (.tmp 16) rfl (w.heap.size + 1) q1 (nn.length + ff4.length) (nn ++ ff4) rfl H2.out.1 q2 (be (nh : Int) 4) rfl H2.out.2.2.2 HL.out.1 (by omega) ?_; intro v3' w3 o3 g3)
    | (at_builtin; refine wpList_append_row rfl (.tmp 18) (.tmp 19) rfl (w.heap.size + 1) v3' (nn.length + ff4.length + (be (nh : Int) 4).length) (nn ++ ff4 ++ be (nh : Int) 4) rfl o3 (.slice aoh nh cph) hd rfl (HH.out.1.2.2.1.below (tag_grown H2.out.2.1 H2.out.2.2.1 H2.out.1 g3).1) HL.out.2 (Nat.le_trans (by omega) g3.size) ?_; intro v4 w4 o4 g4))
  have T3 := tag_grown H2.out.2.1 H2.out.2.2.1 H2.out.1 g3
  have T4 := tag_grown T3.1 T3.2 o3 g4
  have z4 : w.heap.size + 1 ≤ w4.heap.size := T4.2.lt (b := w.heap.size) (o := .cells #[v0, v1, v2, v3] 38) (by simp)
  have cw : w4.drew.cell? ⟨w.heap.size, 1, none⟩ = some v1 := (T4.2.drew.c4 (b := w.heap.size) (x0 := v0) (x1 := v1) (x2 := v2) (x3 := v3) (t := 38) (by simp)).2.1
  have o4' : w4.drew.ownsRow (w.heap.size + 1) 5 1 v4 (nn.length + ff4.length + (be (nh : Int) 4).length + hd.length) ((nn ++ ff4 ++ be (nh : Int) 4 ++ hd).map (Value.int .u8)) := o4
  have C4 : Below w.heap.size w w4.drew := ⟨T4.1.os, T4.1.tape, T4.1.output, T4.1.size, T4.1.block⟩
  have l5 : nn.length + ff4.length + (be (nh : Int) 4).length + hd.length + cp.length ≤ 140737488355328 := by rw [be_length]; have := HH.out.2.2.2.1; have := HH.out.2.2.2.2.1; have := HH.out.2.2.2.2.2; show nn.length + 4 + 4 + _ + _ ≤ _; omega
  have H4 : Hid _ := And.intro o4' (And.intro C4 (And.intro T4.2.drew l5))
  have ld : (nn ++ ff4 ++ be (nh : Int) 4 ++ hd ++ cp).length ≤ 4611686018427387903 := by simp only [List.length_append]; omega
  have LD : Hid ((nn ++ ff4 ++ be (nh : Int) 4 ++ hd ++ cp).length ≤ 4611686018427387903) := ld
  have BD : Hid (Bytes (nn ++ ff4 ++ be (nh : Int) 4 ++ hd ++ cp)) := bytes_append (bytes_append (bytes_append (bytes_append HH.out.2.1.2.1 ff4_bytes) (be_bytes _ _)) HH.out.2.1.2.2.1) HH.out.2.1.2.2.2
  clear o3 g3 o4 g4 T3 T4 o4' C4 l5 ld
  go_region_law (first
    | (refine step_append_row rfl (.tmp 23) (.tmp 24) rfl (w.heap.size + 1) v4 _ _ rfl H4.out.1 cv cp rfl (HH.out.1.2.2.2.below H4.out.2.1) H4.out.2.2.2 z4 ?_; intro v5 w5 o5 g5; have c5 := ((tag_grown H4.out.2.1 H4.out.2.2.1 H4.out.1 g5).2.c4 (b := w.heap.size) (x0 := v0) (x1 := v1) (x2 := v2) (x3 := v3) (t := 38) (by simp)).2.1)
    | (go_simp; go_at_call 51; refine (specDigest v1 v5 k.b _ w5 (HH.out.1.1.below (tag_grown H4.out.2.1 H4.out.2.2.1 H4.out.1 g5).1) (row_of_owns o5) HH.out.2.1.1 BD.out ?_ LD.out).mono ?_; (have := HH.out.2.2.1; omega); rintro e w6 ⟨q6, rfl, o6, b6⟩; obtain ⟨g6, cp6, rfl, _, _⟩ := owns_shape o6 (by decide); obtain ⟨hc1, hc2⟩ := owns_cap o6; have hc8 : (8 : Int) ≤ (cp6 : Int) := by omega))
  all_goals
    have HF : Hid _ := And.intro (row_take (m := 8) o6 (by decide) (by decide)) ((tag_grown H4.out.2.1 H4.out.2.2.1 H4.out.1 g5).1.trans (b6.mono (tag_grown H4.out.2.1 H4.out.2.2.1 H4.out.1 g5).1.size))
    clear o6 b6 o5 g5 cw
    go_wp2
    go_ret
    refine ⟨_, rfl, ?_, HF.out.2⟩
    have := HF.out.1
    unfold tagV
    rw [← HH.out.2.2.2.2.2]
    exact this
end Go.Proofs.Ytkpmdcmgcdnpfaa
