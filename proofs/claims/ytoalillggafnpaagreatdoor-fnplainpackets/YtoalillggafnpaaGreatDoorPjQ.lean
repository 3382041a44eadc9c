import Derived.Test.YtoalillggafnpaaGreatDoorToBytes
import Derived.Test.YtoalillggafnpaaGreatDoorPjI
import Derived.Test.YtoalillggafnpaaGreatDoorBlocks
import Derived.Deep.RegionWith
import Derived.Deep.CutRange
import Derived.Test.YtoalillggafnpaaGreatDoorVals
import Derived.Laws.BytesArg
import Derived.BigQuiet
import Derived.Test.YtoalillggafnpaaGreatDoorPjA
import Derived.Test.YtoalillggafnpaaGreatDoorPjK
namespace Go.Proofs.YtoalillggafnpaaGreatDoor
open Go.RowKit
set_option linter.unusedVariables false

/-- A list of lists of bytes, as a slice of slices holds it. -/
def SRow (w : World) (v : Value) (L : List (List Int)) : Prop :=
  (L = [] ∧ ∃ ao cap, v = .slice ao 0 cap) ∨
  (∃ b off cap, v = .slice (some ⟨b, off, none⟩) L.length cap ∧ b < w.heap.size ∧ ∀ j, j < L.length → ∃ u, w.cell? ⟨b, off + j, none⟩ = some u ∧ Row w .u8 u (L.getD j []))
theorem SRow.form {w : World} {v : Value} {L : List (List Int)} (h : SRow w v L) : ∃ ao cap, v = .slice ao L.length cap := by
  rcases h with ⟨rfl, ao, cap, rfl⟩ | ⟨b, off, cap, rfl, _⟩
  · exact ⟨ao, cap, rfl⟩
  · exact ⟨_, _, rfl⟩
theorem SRow.below {w w' : World} {v : Value} {L : List (List Int)} (h : SRow w v L) (hb : Below w.heap.size w w') : SRow w' v L := by
  rcases h with h | ⟨b, off, cap, rfl, hl, hc⟩
  · exact Or.inl h
  · refine Or.inr ⟨b, off, cap, rfl, by have := hb.size; omega, fun j hj => ?_⟩
    obtain ⟨u, hu, hr⟩ := hc j hj
    exact ⟨u, (hb.cell (p := ⟨b, off + j, none⟩) hl).trans hu, hr.below hb⟩
theorem SRow.at' {w : World} {v : Value} {L : List (List Int)} (h : SRow w v L) (h0 : 0 < L.length) : ∃ b off cap, v = .slice (some ⟨b, off, none⟩) L.length cap ∧ b < w.heap.size ∧ ∀ j, j < L.length → ∃ u, w.cell? ⟨b, off + j, none⟩ = some u ∧ Row w .u8 u (L.getD j []) := by
  rcases h with ⟨rfl, _⟩ | h
  · simp at h0
  · exact h
/-- The bytes of the first k lists. -/
def sumL (L : List (List Int)) (k : Nat) : Nat := (L.take k).flatten.length
theorem sumL_zero (L : List (List Int)) : sumL L 0 = 0 := by simp [sumL]
theorem sumL_succ (L : List (List Int)) (k : Nat) (h : k < L.length) : sumL L (k + 1) = sumL L k + (L.getD k []).length := by
  unfold sumL
  rw [List.take_add_one, List.flatten_append, List.length_append]
  simp [List.getD, h]
/-- What szByteSS takes off. -/
def sizeL (L : List (List Int)) : Nat := L.length + sumL L L.length
theorem sumL_mono (L : List (List Int)) (k : Nat) (h : k ≤ L.length) : sumL L k ≤ sumL L L.length := by
  unfold sumL
  rw [List.take_length]
  conv => rhs; rw [← List.take_append_drop k L]
  rw [List.flatten_append, List.length_append]
  omega

theorem ss_off {wx : World} {base g n i : Nat} {u v : Value} {xs : List Value} (ho : wx.ownsRow base 5 1 v n xs) (hb : g < base) : (wx.setCell ⟨g, i, none⟩ u).ownsRow base 5 1 v n xs :=
  (Only.setCell (w := wx) ⟨g, i, none⟩ u).owns ho (fun k hk e => by have := (ho.lt k hk).1; have := Option.some.inj e; simp only at this; omega)
theorem infoSl : (Tryz.prog.info? 22).map (fun i => (i.zero, i.size, i.bytes)) = some (some (.slice none 0 0), 1, 24) := by kernel_rfl
end Go.Proofs.YtoalillggafnpaaGreatDoor

namespace Go.Proofs.YtoalillggafnpaaGreatDoor
open Go.RowKit
set_option linter.unusedVariables false

theorem str_inj (xs ys : List Int) (hx : Bytes xs) (hy : Bytes ys) : strOfNums xs = strOfNums ys ↔ xs = ys := by
  constructor
  · intro h
    have h' : (strOfNums xs).data.toList = (strOfNums ys).data.toList := by rw [h]
    rw [strOfNums_data, strOfNums_data] at h'
    have hl : xs.length = ys.length := by simpa using congrArg List.length h'
    apply List.ext_getElem hl
    intro i h1 h2
    have := congrArg (·[i]?) h'
    simp only [List.getElem?_map, List.getElem?_eq_getElem h1, List.getElem?_eq_getElem h2, Option.map_some, Option.some.injEq] at this
    have a := hx _ (List.getElem_mem h1)
    have b := hy _ (List.getElem_mem h2)
    have t := congrArg UInt8.toNat this
    simp only [UInt8.toNat_ofNat'] at t
    omega
  · rintro rfl; rfl


/-- string(v) of a row of the call's own. -/
theorem conv_own {P : Program} {w : World} {base e n ts tstr : Nat} {v : Value} {xs : List Int} (hs : P.underlying ts = some (.slice e)) (he : P.underlying e = some (.int .u8)) (hd : P.underlying tstr = some .string)
    (h : w.ownsRow base e 1 v n (xs.map (Value.int .u8))) : (convert ts tstr v).run P w = .ok (.string (strOfNums xs)) w := by
  have hl : xs.length = n := by simpa using h.1
  rcases h.2 with ⟨rfl, h0⟩ | ⟨g, cap, cur, rfl, hg, hh, r⟩
  · subst h0
    obtain rfl : xs = [] := List.eq_nil_of_length_eq_zero hl
    rw [run_convert_bytes_nil w ts e hs he 0 0 tstr hd]
    rfl
  · exact run_convert_bytes_arg w ts e hs he g 0 n cap xs hl (fun i hi => by rw [Nat.zero_add]; exact owns_cell h hl hi) tstr hd
end Go.Proofs.YtoalillggafnpaaGreatDoor

namespace Go.Proofs.YtoalillggafnpaaGreatDoor
open Go.RowKit
set_option linter.unusedVariables false

theorem toList_loop (bs : ByteArray) (n : Nat) : ∀ (i : Nat) (r : List UInt8), bs.size - i = n → ByteArray.toList.loop bs i r = r.reverse ++ bs.data.toList.drop i := by
  have hsz : bs.data.toList.length = bs.size := by rw [Array.length_toList]; rfl
  induction n with
  | zero =>
    intro i r h
    rw [ByteArray.toList.loop, if_neg (by omega), List.drop_eq_nil_of_le (by omega)]
    simp
  | succ n ih =>
    intro i r h
    have hi : i < bs.data.toList.length := by omega
    rw [ByteArray.toList.loop, if_pos (by omega), ih (i + 1) _ (by omega), List.drop_eq_getElem_cons hi]
    have e : bs.get! i = bs.data.toList[i] := by
      have hi' : i < bs.data.size := by rw [← Array.length_toList]; exact hi
      show bs.data[i]! = _
      rw [getElem!_pos bs.data i hi', Array.getElem_toList]
    rw [e]
    simp
theorem toList_data (bs : ByteArray) : bs.toList = bs.data.toList := by
  have := toList_loop bs (bs.size - 0) 0 [] rfl
  unfold ByteArray.toList
  rw [this]
  simp
/-- Two unlike lists of bytes give two unlike texts. -/
theorem str_ne (xs ys : List Int) (hx : Bytes xs) (hy : Bytes ys) (h : xs ≠ ys) : ((strOfNums xs).toList == (strOfNums ys).toList) = false := by
  rw [beq_eq_false_iff_ne, toList_data, toList_data]
  intro e
  have : strOfNums xs = strOfNums ys := by
    cases hs : strOfNums xs with
    | mk a =>
      cases ht : strOfNums ys with
      | mk b =>
        rw [hs, ht] at e
        simp only at e
        congr 1
        exact Array.toList_inj.1 e
  exact h ((str_inj xs ys hx hy).1 this)
end Go.Proofs.YtoalillggafnpaaGreatDoor

namespace Go.Proofs.YtoalillggafnpaaGreatDoor
open Go.RowKit
set_option linter.unusedVariables false

/-- The place of the first list that is t, or -1. -/
structure IdxOut (L : List (List Int)) (t : List Int) (r : Int) : Prop where
  hit : ∀ k, k < L.length → L.getD k [] = t → (∀ j, j < k → L.getD j [] ≠ t) → r = (k : Int)
  miss : (∀ j, j < L.length → L.getD j [] ≠ t) → r = -1
theorem idx_ex (L : List (List Int)) (t : List Int) : ∃ r, IdxOut L t r := by
  by_cases h : ∃ k, k < L.length ∧ L.getD k [] = t
  · obtain ⟨k, ⟨hk, hm⟩⟩ := exists_least h
    refine ⟨(k : Int), ⟨fun j hj he hn => ?_, fun hn => absurd hk.2 (hn k hk.1)⟩⟩
    have h1 := hm j ⟨hj, he⟩
    rcases Nat.lt_or_ge k j with hlt | hge
    · exact absurd hk.2 (hn k hlt)
    · have : k = j := by omega
      rw [this]
  · exact ⟨-1, ⟨fun k hk he _ => absurd ⟨k, hk, he⟩ h, fun _ => rfl⟩⟩
theorem conv_rowR {P : Program} {w : World} {e ts tstr : Nat} {v : Value} {xs : List Int} (hs : P.underlying ts = some (.slice e)) (he : P.underlying e = some (.int .u8)) (hd : P.underlying tstr = some .string)
    (h : Row w .u8 v xs) (h0 : 0 < xs.length) : (convert ts tstr v).run P w = .ok (.string (strOfNums xs)) w := by
  obtain ⟨b, off, cap, rfl, hb, hc⟩ := h.at h0
  exact run_convert_bytes_arg w ts e hs he b off xs.length cap xs rfl hc tstr hd
end Go.Proofs.YtoalillggafnpaaGreatDoor

namespace Go.Proofs.YtoalillggafnpaaGreatDoor
open Go.RowKit
set_option linter.unusedVariables false

/-- What the reader makes of a retry packet and of a version packet as they are written. -/
theorem vals_be4 (v : Int) (h0 : 0 ≤ v) (h1 : v < 4294967296) : vals (be v 4) = v := by
  simp only [be, vals, List.nil_append, List.cons_append, List.foldl_cons, List.foldl_nil]
  omega
theorem sub_mid (a b c xs : List Int) (p k : Nat) (e : xs = a ++ (b ++ c)) (hp : p = a.length) (hk : k = b.length) : sub xs p k = b := by
  subst e hp hk
  unfold sub
  rw [List.drop_left, List.take_left]
theorem pkCid_mid (a d c xs : List Int) (p : Nat) (e : xs = a ++ ([(d.length : Int)] ++ (d ++ c))) (hp : p = a.length) (h8 : d.length ≤ 8) : pkCid xs p = .ok (d, p + 1 + d.length) := by
  have s1 : sub xs p 1 = [(d.length : Int)] := sub_mid a [(d.length : Int)] (d ++ c) xs p 1 e hp rfl
  have v1 : vals (sub xs p 1) = (d.length : Int) := by rw [s1]; simp [vals]
  have t1 : (vals (sub xs p 1)).toNat = d.length := by rw [v1]; simp
  have hl : xs.length = p + 1 + d.length + c.length := by rw [e, hp]; simp; omega
  have s2 : sub xs (p + 1) d.length = d := sub_mid (a ++ [(d.length : Int)]) d c xs (p + 1) d.length (by rw [e]; simp) (by rw [hp]; simp) rfl
  unfold pkCid
  rw [if_neg (by omega), if_neg (by omega), if_neg (by omega), t1, s2]
theorem pk_head (f v : Int) (d s rest xs : List Int) (e : xs = ([f] ++ idsV v d s) ++ rest) (hf : 128 ≤ f) (h0 : 0 ≤ v) (h1 : v < 4294967296) (hd : d.length ≤ 8) (hs : s.length ≤ 8) (hl : xs.length ≤ 65536) :
    pk xs 0 = pkTail xs f v d s (7 + d.length + s.length) := by
  have hlen : xs.length = 7 + d.length + s.length + rest.length := by rw [e]; simp [idsV_length]; omega
  have s0 : sub xs 0 1 = [f] := sub_mid [] [f] (idsV v d s ++ rest) xs 0 1 (by rw [e]; simp) rfl rfl
  have v0 : vals (sub xs 0 1) = f := by rw [s0]; simp [vals]
  have sv : sub xs 1 4 = be v 4 := sub_mid [f] (be v 4) ([(d.length : Int)] ++ d ++ [(s.length : Int)] ++ s ++ rest) xs 1 4 (by rw [e]; simp [idsV]) rfl (be_length v 4).symm
  have vv : vals (sub xs 1 4) = v := by rw [sv, vals_be4 v h0 h1]
  have c1 := pkCid_mid ([f] ++ be v 4) d ([(s.length : Int)] ++ s ++ rest) xs 5 (by rw [e]; simp [idsV]) (by simp [be_length]) hd
  have c2 := pkCid_mid ([f] ++ be v 4 ++ [(d.length : Int)] ++ d) s rest xs (5 + 1 + d.length) (by rw [e]; simp [idsV]) (by simp [be_length]; omega) hs
  unfold pk
  rw [if_neg (by omega), if_neg (by omega), if_neg (by omega), if_neg (by omega), if_neg (by omega), v0, pkLong_4 (by omega) c1 c2, vv]
  congr 1
  omega
theorem pk_retP (h : H8) (o : List Int) (ok : rok h o) : pk (retP h o) 0 = .ok ⟨3, h.v, h.d, h.s, h.t, [], 0, (retP h o).length⟩ := by
  obtain ⟨hf, ⟨hv1, hv2⟩, hd, hs, ht1, ht2, hn, hl, hp, ho⟩ := ok
  have hlen : (retP h o).length = 15 + h.d.length + h.s.length + h.t.length := by unfold retP; rw [List.length_append, retO_length, retV_length]; omega
  rw [pk_head 240 h.v h.d h.s (h.t ++ retV o (retO h)) (retP h o) (by unfold retP retO; simp) (by decide) (by omega) (by omega) hd hs (by omega)]
  have r : pkRet (retP h o) (7 + h.d.length + h.s.length) = .ok h.t := by
    unfold pkRet
    rw [if_neg (by omega), if_neg (by omega)]
    congr 1
    exact sub_mid ([240] ++ idsV h.v h.d h.s) h.t (retV o (retO h)) (retP h o) _ _ (by unfold retP retO; simp) (by simp [idsV_length]; omega) (by omega)
  unfold pkTail
  rw [if_neg (by omega), if_pos (by decide), r]
theorem retP_take (h : H8) (o : List Int) : (retP h o).take (retO h).length = retO h := by unfold retP; rw [List.take_left]
theorem retP_drop (h : H8) (o : List Int) : (retP h o).drop (retO h).length = retV o (retO h) := by unfold retP; rw [List.drop_left]
theorem versL_V (a vs : List Int) (hv : ∀ j, j < vs.length → vok (vs.getD j 0)) : versL (a ++ versV vs) a.length vs.length = vs := by
  have hs : ∀ j, j < vs.length → vals (sub (a ++ versV vs) (a.length + 4 * j) 4) = vs.getD j 0 := by
    intro j hj
    have e : versV vs = versV (vs.take j) ++ (be (vs.getD j 0) 4 ++ versV (vs.drop (j + 1))) := by
      have : vs = vs.take j ++ ([vs.getD j 0] ++ vs.drop (j + 1)) := by
        have e1 : vs.getD j 0 = vs[j] := by simp [List.getD, hj]
        rw [e1]
        simp
      conv => lhs; rw [this]
      unfold versV
      rw [List.map_append, List.flatten_append, List.map_append, List.flatten_append]
      simp
    have hl : (versV (vs.take j)).length = 4 * j := by rw [versV_length, List.length_take]; omega
    rw [sub_mid (a ++ versV (vs.take j)) (be (vs.getD j 0) 4) (versV (vs.drop (j + 1))) _ _ 4 (by rw [e]; simp) (by rw [List.length_append, hl]) (be_length _ 4).symm]
    obtain ⟨h1, h2⟩ := hv j hj
    exact vals_be4 _ (by omega) (by omega)
  unfold versL
  apply List.ext_getElem
  · simp
  · intro j h1 h2
    have := hs j h2
    simp only [List.getElem_map, List.getElem_range]
    rw [this]
    simp [List.getD, h2]
theorem pk_versP (d s vs xs : List Int) (e : xs = (128 :: idsV 0 d s) ++ versV vs) (hd : d.length ≤ 8) (hs : s.length ≤ 8) (h1 : 1 ≤ vs.length) (h8 : vs.length ≤ 8) (hv : ∀ j, j < vs.length → vok (vs.getD j 0)) :
    pk xs 0 = .ok ⟨5, 0, d, s, [], vs, 0, xs.length⟩ := by
  have ha : (128 :: idsV 0 d s).length = 7 + d.length + s.length := by rw [List.length_cons, idsV_length]; omega
  have hlen : xs.length = 7 + d.length + s.length + 4 * vs.length := by rw [e, List.length_append, ha, versV_length]
  rw [pk_head 128 0 d s (versV vs) xs (by rw [e]; simp) (by decide) (by decide) (by decide) hd hs (by omega)]
  have hL := versL_V (128 :: idsV 0 d s) vs hv
  rw [ha, ← e] at hL
  have hd' : (xs.length - (7 + d.length + s.length)) / 4 = vs.length := by omega
  have r : pkVer xs (7 + d.length + s.length) = .ok vs := by
    unfold pkVer
    rw [if_neg (by omega), hd', hL, if_pos]
    rw [List.all_eq_true]
    intro x hx
    obtain ⟨j, hj, rfl⟩ := List.getElem_of_mem hx
    have := hv j hj
    have e1 : vs.getD j 0 = vs[j] := by simp [List.getD, hj]
    rw [e1] at this
    unfold vok at this
    simp only [decide_eq_true_eq]
    omega
  unfold pkTail
  rw [if_pos rfl, if_neg (by decide), r]
theorem rpV_drop (ts js : List Int) (n : Nat) (h : js.length = n) : (rpV ts js).drop n = ts := by
  unfold rpV
  have : (js.set 0 (64 + js.getD 0 0 % 64)).length = n := by rw [List.length_set, h]
  rw [← this, List.drop_left]
theorem rpV_first (ts js : List Int) (h : 0 < js.length) : (rpV ts js).getD 0 0 = 64 + js.getD 0 0 % 64 := by
  unfold rpV
  match js, h with
  | j :: js, _ => simp [List.getD]
theorem idx_tok (t z : List Int) (h8 : t.length = 8) : IdxOut [[1], t, z] t 1 := by
  refine ⟨?_, ?_⟩
  · intro k hk he hn
    match k, hk with
    | 0, _ =>
      have := congrArg List.length he
      simp at this
      omega
    | 1, _ => rfl
    | 2, _ => exact absurd rfl (hn 1 (by decide))
  · intro hn
    exact absurd rfl (hn 1 (by simp))
theorem idx_none (t z : List Int) (h : z ≠ t) : IdxOut [z] t (-1) := by
  refine ⟨?_, fun _ => rfl⟩
  intro k hk he hn
  match k, hk with
  | 0, _ => exact absurd he h
end Go.Proofs.YtoalillggafnpaaGreatDoor
