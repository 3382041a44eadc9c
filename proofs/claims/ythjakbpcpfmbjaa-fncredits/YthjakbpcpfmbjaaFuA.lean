import Derived.Test.YthjakbpcpfmbjaaCreditNextLaw
import Derived.Test.YthjakbpcpfmbjaaIdOfLaw
namespace Go.Proofs.Ythjakbpcpfmbjaa
open Go.RowKit
set_option linter.unusedVariables false

/-- The books of one stream. -/
structure SX where
  id : Int
  cr : Int
  sn : Int
  td : Int
  cm : Int
  rd : Int
  ov : Bool
instance : Inhabited SX := ⟨⟨0, 0, 0, 0, 0, 0, false⟩⟩
/-- How the credit begins. -/
structure FS where
  sv : Bool
  cw : Int
  sw : Int
  tw : Int
  ow : Int
  pc : Int
  ps : Int
  pt : Int
  po : Int
/-- The credit of one end. -/
structure FX where
  L : List SX
  op : Bool → Int
  th : Bool → Int
  my : Bool → Int
  tin : Bool → Int
  cc : Int
  tc : Int
  rc : Int
def updB {α : Type} (f : Bool → α) (o : Bool) (x : α) : Bool → α := fun j => if j = o then x else f j
theorem updB_at {α : Type} (f : Bool → α) (o : Bool) (x : α) : updB f o x o = x := by unfold updB; rw [if_pos rfl]
theorem updB_ne {α : Type} (f : Bool → α) (o : Bool) (x : α) (j : Bool) (h : j ≠ o) : updB f o x j = f j := by unfold updB; rw [if_neg h]
/-- The number of the k-th stream of a kind. -/
def idn (s o : Bool) (k : Int) : Int := k * 4 + (if s then 1 else 0) + (if o then 2 else 0)
theorem idV_idn {s o : Bool} {k : Int} (h0 : 0 ≤ k) (h1 : k < 1152921504606846976) : idV s o k = idn s o k := by
  unfold idV idn
  rw [if_neg (by omega)]
theorem idn_bound {s o : Bool} {k : Int} (h0 : 0 ≤ k) (h1 : k < 1152921504606846976) : 0 ≤ idn s o k ∧ idn s o k < 4611686018427387904 := by
  unfold idn
  cases s <;> cases o <;> simp only [Bool.false_eq_true, if_true, if_false] <;> omega
theorem idn_parts {s o : Bool} {k : Int} (h0 : 0 ≤ k) (h1 : k < 1152921504606846976) : ptS (idn s o k) = s ∧ ptO (idn s o k) = o ∧ idn s o k / 4 = k := by
  have hb := idn_bound (s := s) (o := o) h0 h1
  unfold ptS ptO
  rw [if_neg (by omega), if_neg (by omega)]
  unfold idn
  cases s <;> cases o <;> simp only [Bool.false_eq_true, if_true, if_false] <;> refine ⟨?_, ?_, by omega⟩ <;> (first | (have h : (k * 4 + 0 + 0) % 2 = 0 := by omega) | skip) <;> simp only [beq_eq_false_iff_ne, ne_eq, beq_iff_eq] <;> omega
theorem idn_of {id : Int} (h0 : 0 ≤ id) (h1 : id < 4611686018427387904) : idn (ptS id) (ptO id) (id / 4) = id := by
  have hn : ¬ (id < 0 ∨ 4611686018427387904 ≤ id) := by omega
  simp only [ptS, ptO, idn, if_neg hn]
  rcases (show id % 2 = 0 ∨ id % 2 = 1 by omega) with a | a <;> rcases (show id / 2 % 2 = 0 ∨ id / 2 % 2 = 1 by omega) with b | b <;> simp only [a, b] <;> simp <;> omega
theorem idn_inj {s o s' o' : Bool} {k k' : Int} (h0 : 0 ≤ k) (h1 : k < 1152921504606846976) (g0 : 0 ≤ k') (g1 : k' < 1152921504606846976) (h : idn s o k = idn s' o' k') : s = s' ∧ o = o' ∧ k = k' := by
  have a := idn_parts (s := s) (o := o) h0 h1
  have b := idn_parts (s := s') (o := o') g0 g1
  rw [h] at a
  exact ⟨a.1.symm.trans b.1, a.2.1.symm.trans b.2.1, a.2.2.symm.trans b.2.2⟩
def SX.new (F : FS) (id : Int) : SX := ⟨id, F.ps, 0, F.sw, 0, 0, false⟩
/-- The place of a stream. -/
def ixf (L : List SX) (id : Int) : Nat := L.findIdx (fun s => decide (s.id = id))
def sumS (L : List SX) : Int := (L.map SX.sn).sum
def sumC (L : List SX) : Int := (L.map SX.cm).sum
/-- Of a kind, n more from a on. -/
def addk (F : FS) (s o : Bool) (L : List SX) (a : Int) : Nat → List SX
  | 0 => L
  | n + 1 => addk F s o L a n ++ [SX.new F (idn s o (a + (n : Int)))]
/-- What an operation answers. -/
structure FO where
  code : Int
  id : Int
  cnt : Int
  fr : List (Int × Int × Int)
instance : Inhabited FO := ⟨⟨0, 0, 0, []⟩⟩
def canS (F : FS) (L : List SX) (id : Int) : Prop := ixf L id < L.length ∧ (ptS id = F.sv ∨ ptO id = false)
def canG (F : FS) (L : List SX) (id : Int) : Prop := ixf L id < L.length ∧ (ptS id ≠ F.sv ∨ ptO id = false)
instance (F : FS) (L : List SX) (id : Int) : Decidable (canS F L id) := by unfold canS; infer_instance
instance (F : FS) (L : List SX) (id : Int) : Decidable (canG F L id) := by unfold canG; infer_instance
def sxAt (L : List SX) (id : Int) : SX := L.getD (ixf L id) default
def sxSet (L : List SX) (id : Int) (x : SX) : List SX := L.set (ixf L id) x
def fopen (F : FS) (m : FX) (o : Bool) : FX × FO :=
  if m.my o ≤ m.op o then (m, ⟨9, 0, 0, []⟩) else ({ m with L := m.L ++ [SX.new F (idn F.sv o (m.op o))], op := updB m.op o (m.op o + 1) }, ⟨0, idn F.sv o (m.op o), 0, []⟩)
def cntS (m : FX) (id n : Int) : Int := min (min n ((sxAt m.L id).cr - (sxAt m.L id).sn)) (m.cc - sumS m.L)
def fsend (F : FS) (m : FX) (id n : Int) : FX × FO :=
  if n < 0 then (m, ⟨1, 0, 0, []⟩) else if canS F m.L id then ({ m with L := sxSet m.L id { sxAt m.L id with sn := (sxAt m.L id).sn + cntS m id n } }, ⟨0, 0, cntS m id n, []⟩) else (m, ⟨7, 0, 0, []⟩)
def fadm (F : FS) (m : FX) (id : Int) : FX :=
  { m with L := addk F (!F.sv) (ptO id) m.L (m.th (ptO id)) (id / 4 + 1 - m.th (ptO id)).toNat, th := updB m.th (ptO id) (m.th (ptO id) + (id / 4 + 1 - m.th (ptO id)).toNat) }
def fput (F : FS) (m : FX) (id n : Int) : FX × Int :=
  if canG F m.L id then
    if (sxAt m.L id).td < max n (sxAt m.L id).cm ∨ m.tc - (sumC m.L - (sxAt m.L id).cm) < max n (sxAt m.L id).cm then (m, 8)
    else ({ m with L := sxSet m.L id { sxAt m.L id with cm := max n (sxAt m.L id).cm } }, 0)
  else (m, 7)
def fwho (F : FS) (m : FX) (id : Int) : FX := if ptS id = F.sv then m else fadm F m id
def farrive (F : FS) (m : FX) (id n : Int) : FX × Int :=
  if id < 0 ∨ 4611686018427387904 ≤ id ∨ n < 0 ∨ 4611686018427387903 < n then (m, 1)
  else if ptS id ≠ F.sv ∧ m.tin (ptO id) ≤ id / 4 then (m, 9)
  else fput F (fwho F m id) id n
def tdV (w r t : Int) : Int := if (w + 1) / 2 ≤ r + w - t then r + w else t
def fread (F : FS) (m : FX) (id n : Int) : FX × FO :=
  if canG F m.L id then
    if n < 1 ∨ (sxAt m.L id).cm - (sxAt m.L id).rd < n then (m, ⟨1, 0, 0, []⟩)
    else ({ m with L := sxSet m.L id { sxAt m.L id with rd := (sxAt m.L id).rd + n, td := tdV F.sw ((sxAt m.L id).rd + n) (sxAt m.L id).td }, rc := m.rc + n, tc := tdV F.cw (m.rc + n) m.tc },
      ⟨0, 0, 0, (if tdV F.sw ((sxAt m.L id).rd + n) (sxAt m.L id).td = (sxAt m.L id).td then [] else [(17, id, tdV F.sw ((sxAt m.L id).rd + n) (sxAt m.L id).td)]) ++ (if tdV F.cw (m.rc + n) m.tc = m.tc then [] else [(16, tdV F.cw (m.rc + n) m.tc, 0)])⟩)
  else (m, ⟨7, 0, 0, []⟩)
def lasts (F : FS) (L : List SX) (id : Int) : Prop := ixf L id < L.length ∧ ptS id ≠ F.sv ∧ (sxAt L id).ov = false
instance (F : FS) (L : List SX) (id : Int) : Decidable (lasts F L id) := by unfold lasts; infer_instance
def fend (F : FS) (m : FX) (id : Int) : FX × FO :=
  if lasts F m.L id then
    if m.tin (ptO id) = 1152921504606846976 then ({ m with L := sxSet m.L id { sxAt m.L id with ov := true } }, ⟨0, 0, 0, []⟩)
    else ({ m with L := sxSet m.L id { sxAt m.L id with ov := true }, tin := updB m.tin (ptO id) (m.tin (ptO id) + 1) }, ⟨0, 0, 0, [(18, m.tin (ptO id) + 1, if ptO id then 1 else 0)]⟩)
  else (m, ⟨7, 0, 0, []⟩)
def fdin (m : FX) (n : Int) : FX × Int := if n < 0 ∨ 4611686018427387903 < n then (m, 1) else ({ m with cc := max m.cc n }, 0)
def fsin (F : FS) (m : FX) (id n : Int) : FX × Int :=
  if n < 0 ∨ 4611686018427387903 < n then (m, 1) else if canS F m.L id then ({ m with L := sxSet m.L id { sxAt m.L id with cr := max (sxAt m.L id).cr n } }, 0) else (m, 7)
def fmin (m : FX) (o : Bool) (n : Int) : FX × Int := if n < 0 ∨ 1152921504606846976 < n then (m, 1) else ({ m with my := updB m.my o (max (m.my o) n) }, 0)
def cO (s : FX × Int) : FX × FO := (s.1, ⟨s.2, 0, 0, []⟩)
def fstep (F : FS) (m : FX) (k id n : Int) (o : Bool) : FX × FO :=
  if k = 1 then fopen F m o else if k = 2 then fsend F m id n else if k = 3 then cO (farrive F m id n) else if k = 4 then fread F m id n
  else if k = 5 then fend F m id else if k = 6 then cO (fdin m n) else if k = 7 then cO (fsin F m id n) else if k = 8 then cO (fmin m o n) else (m, ⟨1, 0, 0, []⟩)
def fx0 (F : FS) : FX := ⟨[], fun _ => 0, fun _ => 0, fun o => if o then F.po else F.pt, fun o => if o then F.ow else F.tw, F.pc, F.cw, 0⟩
/-- Whether the setup is valid. -/
def fsOK (F : FS) : Bool := decide (1 ≤ F.cw ∧ F.cw ≤ 16384 ∧ 1 ≤ F.sw ∧ F.sw ≤ 16384 ∧ 0 ≤ F.tw ∧ F.tw ≤ 64 ∧ 0 ≤ F.ow ∧ F.ow ≤ 64 ∧ 0 ≤ F.pc ∧ F.pc ≤ 4611686018427387903 ∧ 0 ≤ F.ps ∧ F.ps ≤ 4611686018427387903 ∧ 0 ≤ F.pt ∧ F.pt ≤ 1152921504606846976 ∧ 0 ≤ F.po ∧ F.po ≤ 1152921504606846976)
/-- What holds of one stream behind i operations. -/
structure SXI (F : FS) (i : Nat) (s : SX) : Prop where
  sn : 0 ≤ s.sn ∧ s.sn ≤ s.cr
  cr : s.cr ≤ 4611686018427387903
  rd : 0 ≤ s.rd ∧ s.rd ≤ s.cm ∧ s.rd ≤ 16384 * (i : Int)
  cm : s.cm ≤ s.td
  td : s.td ≤ s.rd + F.sw
theorem SXI.up {F : FS} {i : Nat} {s : SX} (h : SXI F i s) : SXI F (i + 1) s := ⟨h.sn, h.cr, ⟨h.rd.1, h.rd.2.1, by have := h.rd.2.2; omega⟩, h.cm, h.td⟩
/-- What holds behind i operations. -/
structure FXI (F : FS) (i : Nat) (m : FX) : Prop where
  nd : (m.L.map SX.id).Nodup
  mem : ∀ id, id ∈ m.L.map SX.id ↔ ∃ (o : Bool) (k : Int), 0 ≤ k ∧ ((k < m.op o ∧ id = idn F.sv o k) ∨ (k < m.th o ∧ id = idn (!F.sv) o k))
  len : (m.L.length : Int) = m.op false + m.op true + m.th false + m.th true
  op : ∀ o, 0 ≤ m.op o ∧ m.op o ≤ m.my o ∧ m.op o ≤ (i : Int)
  th : ∀ o, 0 ≤ m.th o ∧ m.th o ≤ m.tin o
  my : ∀ o, m.my o ≤ 1152921504606846976
  tin : ∀ o, m.tin o ≤ 64 + (i : Int)
  each : ∀ s ∈ m.L, SXI F i s
  cc : sumS m.L ≤ m.cc ∧ m.cc ≤ 4611686018427387903
  tc : sumC m.L ≤ m.tc ∧ m.tc ≤ m.rc + F.cw
  rc : 0 ≤ m.rc ∧ m.rc ≤ 16384 * (i : Int)
theorem FXI.up {F : FS} {i : Nat} {m : FX} (h : FXI F i m) : FXI F (i + 1) m :=
  ⟨h.nd, h.mem, h.len, fun o => by have := h.op o; omega, h.th, h.my, fun o => by have := h.tin o; omega, fun s hs => (h.each s hs).up, h.cc, h.tc, by have := h.rc; omega⟩
theorem FXI.len_le {F : FS} {i : Nat} {m : FX} (h : FXI F i m) (hi : i ≤ 400) : m.L.length ≤ 1728 := by
  have a := h.op false
  have b := h.op true
  have c := h.th false
  have d := h.th true
  have e := h.tin false
  have f := h.tin true
  have := h.len
  omega
theorem ixf_some {L : List SX} {id : Int} (h : ixf L id < L.length) : (sxAt L id).id = id ∧ sxAt L id ∈ L := by
  have e : sxAt L id = L[ixf L id] := by simp [sxAt, List.getD, h]
  rw [e]
  refine ⟨?_, List.getElem_mem h⟩
  have := List.findIdx_getElem (p := fun s : SX => decide (s.id = id)) (xs := L) (w := h)
  exact of_decide_eq_true this
theorem ixf_mem {L : List SX} {id : Int} : ixf L id < L.length ↔ id ∈ L.map SX.id := by
  unfold ixf
  rw [List.findIdx_lt_length]
  simp
theorem ixf_le (L : List SX) (id : Int) : ixf L id ≤ L.length := List.findIdx_le_length
theorem ixf_at {L : List SX} {id : Int} {j : Nat} (hj : j < L.length) (hlt : ixf L id < L.length) (hnd : (L.map SX.id).Nodup) (h : (L.getD j default).id = id) : ixf L id = j := by
  have a := ixf_some hlt
  have e1 : (L.map SX.id)[ixf L id]? = some id := by rw [List.getElem?_map]; simp [hlt]; have := a.1; simp [sxAt, List.getD, hlt] at this; exact this
  have e2 : (L.map SX.id)[j]? = some id := by rw [List.getElem?_map]; simp [hj]; simpa [List.getD, hj] using h
  exact (List.getElem?_inj (by simpa using hlt) hnd).1 (e1.trans e2.symm)
theorem sum_set {α : Type} (f : α → Int) : ∀ (L : List α) (j : Nat) (x d : α), j < L.length → ((L.set j x).map f).sum = (L.map f).sum - f (L.getD j d) + f x
  | [], j, x, d, h => by simp at h
  | y :: r, 0, x, d, h => by simp; omega
  | y :: r, j + 1, x, d, h => by
    have := sum_set f r j x d (by simpa using h)
    simp only [List.set_cons_succ, List.map_cons, List.sum_cons]
    rw [this]
    simp only [List.getD_cons_succ]
    omega
theorem sumS_set (L : List SX) (id : Int) (x : SX) (h : ixf L id < L.length) : sumS (sxSet L id x) = sumS L - (sxAt L id).sn + x.sn := sum_set SX.sn L _ x default h
theorem sumC_set (L : List SX) (id : Int) (x : SX) (h : ixf L id < L.length) : sumC (sxSet L id x) = sumC L - (sxAt L id).cm + x.cm := sum_set SX.cm L _ x default h
theorem sumS_app (L : List SX) (x : SX) : sumS (L ++ [x]) = sumS L + x.sn := by simp [sumS]
theorem sumC_app (L : List SX) (x : SX) : sumC (L ++ [x]) = sumC L + x.cm := by simp [sumC]
theorem set_ids (L : List SX) (id : Int) (x : SX) (hx : x.id = id) : (sxSet L id x).map SX.id = L.map SX.id := by
  apply List.ext_getElem?
  intro j
  unfold sxSet
  rw [List.getElem?_map, List.getElem?_map, List.getElem?_set]
  by_cases e : ixf L id = j
  · rw [if_pos e]
    by_cases h : ixf L id < L.length
    · rw [if_pos h]
      subst e
      have a := (ixf_some h).1
      simp only [sxAt, List.getD, List.getElem?_eq_getElem h, Option.getD_some] at a
      simp [List.getElem?_eq_getElem h, a, hx]
    · rw [if_neg h, List.getElem?_eq_none (by omega)]; try rfl
  · rw [if_neg e]
theorem set_mem {L : List SX} {id : Int} {x s : SX} (h : s ∈ sxSet L id x) : s ∈ L ∨ s = x := List.mem_or_eq_of_mem_set h
theorem set_len (L : List SX) (id : Int) (x : SX) : (sxSet L id x).length = L.length := by simp [sxSet]
/-- A stream that is there is turned. -/
theorem FXI.setX {F : FS} {i : Nat} {m : FX} (h : FXI F i m) (id : Int) (x : SX) (hl : ixf m.L id < m.L.length) (hx : x.id = id) (hX : SXI F (i + 1) x) (cc : Int) (hcc : sumS m.L - (sxAt m.L id).sn + x.sn ≤ cc ∧ cc ≤ 4611686018427387903)
    (tc rc : Int) (htc : sumC m.L - (sxAt m.L id).cm + x.cm ≤ tc ∧ tc ≤ rc + F.cw) (hrc : 0 ≤ rc ∧ rc ≤ 16384 * ((i + 1 : Nat) : Int)) : FXI F (i + 1) { m with L := sxSet m.L id x, cc := cc, tc := tc, rc := rc } := by
  have u := h.up
  refine ⟨?_, ?_, ?_, u.op, u.th, u.my, u.tin, fun s hs => ?_, ?_, ?_, hrc⟩
  · show (List.map SX.id (sxSet m.L id x)).Nodup
    rw [set_ids _ _ _ hx]; exact h.nd
  · show ∀ id', id' ∈ List.map SX.id (sxSet m.L id x) ↔ _
    rw [set_ids _ _ _ hx]; exact h.mem
  · show ((sxSet m.L id x).length : Int) = _
    rw [set_len]; exact h.len
  · rcases set_mem hs with a | rfl
    · exact u.each s a
    · exact hX
  · show sumS (sxSet m.L id x) ≤ cc ∧ _
    rw [sumS_set _ _ _ hl]; exact hcc
  · show sumC (sxSet m.L id x) ≤ tc ∧ _
    rw [sumC_set _ _ _ hl]; exact htc
end Go.Proofs.Ythjakbpcpfmbjaa
