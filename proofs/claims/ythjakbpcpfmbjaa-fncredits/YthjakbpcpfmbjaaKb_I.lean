import Derived.Test.YthjakbpcpfmbjaaFlatB
import Derived.Test.YthjakbpcpfmbjaaKb_H
import Derived.Test.YthjakbpcpfmbjaaFlFlowOp
namespace Go.Proofs.Ythjakbpcpfmbjaa
open Go.RowKit
set_option linter.unusedVariables false

def FO.c (e : FO) (u : Value) : List Value := [.int .i64 e.code, .int .i64 e.id, .int .i64 e.cnt, u]
/-- What FlowRun answers, as a slice holds it: each observation with its frames. -/
def NRow (w : World) (v : Value) (Y : List FO) : Prop :=
  ∃ U : Nat → Value, GRow 4 w v (zl FO.c Y U) ∧ ∀ j, j < Y.length → GRow 8 w (U j) ((Y.getD j default).fr.map frC)
/-- The same, of one's own: no two lists of frames share a block. -/
def NOwns (w : World) (base : Nat) (v : Value) (Y : List FO) : Prop :=
  ∃ U : Nat → Value, GOwns 35 4 w base v (zl FO.c Y U) ∧ (∀ j, j < Y.length → GOwns 38 8 w base (U j) ((Y.getD j default).fr.map frC)) ∧ (∀ (i j : Nat), i < j → j < Y.length → ∀ k, (U j).ownBlock = some k → some k ≠ (U i).ownBlock)
theorem NOwns.row {w : World} {base : Nat} {v : Value} {Y : List FO} (h : NOwns w base v Y) : NRow w v Y := by
  obtain ⟨U, g, r, _⟩ := h
  exact ⟨U, g.row, fun j hj => (r j hj).row⟩
theorem NRow.below {w w' : World} {v : Value} {Y : List FO} (h : NRow w v Y) (hb : Below w.heap.size w w') : NRow w' v Y := by
  obtain ⟨U, g, r⟩ := h
  exact ⟨U, g.below hb, fun j hj => (r j hj).below hb⟩
theorem NRow.form {w : World} {v : Value} {Y : List FO} (h : NRow w v Y) : ∃ ao cap, v = .slice ao Y.length cap := by
  obtain ⟨U, g, _⟩ := h
  have := g.form
  rwa [zl_length] at this
theorem NOwns.below {w w' : World} {base : Nat} {v : Value} {Y : List FO} (h : NOwns w base v Y) (hb : Below w.heap.size w w') : NOwns w' base v Y := by
  obtain ⟨U, g, r, a⟩ := h
  exact ⟨U, g.below hb, fun j hj => (r j hj).below hb, a⟩
theorem NOwns.mono {w : World} {base base' : Nat} {v : Value} {Y : List FO} (h : NOwns w base v Y) (hb : base' ≤ base) : NOwns w base' v Y := by
  obtain ⟨U, g, r, a⟩ := h
  exact ⟨U, g.mono hb, fun j hj => (r j hj).mono hb, a⟩
theorem NRow.at' {w : World} {v : Value} {Y : List FO} (h : NRow w v Y) (h0 : 0 < Y.length) :
    ∃ b off cap, v = .slice (some ⟨b, off, none⟩) Y.length cap ∧ b < w.heap.size ∧ ∃ U : Nat → Value, (∀ j, j < Y.length → ∀ f, f < 4 → w.cell? ⟨b, off + (j * 4 + f), none⟩ = (FO.c (Y.getD j default) (U j))[f]?) ∧ ∀ j, j < Y.length → GRow 8 w (U j) ((Y.getD j default).fr.map frC) := by
  obtain ⟨U, g, r⟩ := h
  obtain ⟨b, off, cap, rfl, hb, hc⟩ := g.at' (by rw [zl_length]; exact h0)
  rw [zl_length] at hc ⊢
  exact ⟨b, off, cap, rfl, hb, U, fun j hj f hf => by rw [← zl_at FO.c Y U j hj]; exact hc j hj f hf, r⟩
/-- The credit behind k operations. -/
def fstepO (F : FS) (m : FX) (o : SFlowOp) : FX × FO := fstep F m o.f0 o.f1 o.f2 o.f3
def frunP (F : FS) (R : List SFlowOp) : Nat → FX
  | 0 => fx0 F
  | k + 1 => (fstepO F (frunP F R k) (R.getD k default)).1
def fobsAt (F : FS) (R : List SFlowOp) (k : Nat) : FO := (fstepO F (frunP F R k) (R.getD k default)).2
theorem frunP_inv {F : FS} (hF : fsOK F = true) (R : List SFlowOp) : ∀ k, k ≤ 401 → FXI F k (frunP F R k)
  | 0, _ => FXI.zero hF
  | k + 1, hk => (frunP_inv hF R k (by omega)).step hF (by omega) _ _ _ _
/-- What FlowRun answers. -/
def flY (F : FS) (R : List SFlowOp) : List FO := if 400 < R.length ∨ fsOK F = false then [] else (List.range R.length).map (fobsAt F R)
def flC (F : FS) (R : List SFlowOp) : Int := if 400 < R.length then 4 else if fsOK F = false then 1 else 0
end Go.Proofs.Ythjakbpcpfmbjaa

namespace Go.Proofs.Ythjakbpcpfmbjaa
open Go.RowKit
set_option linter.unusedVariables false

/-- What FnFlowBooks keeps: the credit for sending, what was sent, the last credit told, how many streams were opened, how many may be. -/
structure KB8 (m : FX) (conn sent told : Int) (opd may : Bool → Int) : Prop where
  conn : conn = m.cc
  sent : sent = sumS m.L
  told : told ≤ m.tc
  opd : opd = m.op
  may : may = m.my
theorem KB8.zero (F : FS) (hF : fsOK F = true) : KB8 (fx0 F) F.pc 0 0 (fun _ => 0) (fun o => if o then F.po else F.pt) := by
  simp only [fsOK, decide_eq_true_eq] at hF
  exact ⟨rfl, rfl, by show (0 : Int) ≤ F.cw; omega, rfl, rfl⟩
/-- The credit told behind the frames of one answer. -/
def tld (told : Int) : List (Int × Int × Int) → Int
  | [] => told
  | f :: r => tld (if f.1 = 16 then f.2.1 else told) r
/-- Each credit of the connection is above the one before. -/
def tldOK (told : Int) : List (Int × Int × Int) → Prop
  | [] => True
  | f :: r => (f.1 = 16 → told < f.2.1) ∧ tldOK (if f.1 = 16 then f.2.1 else told) r
theorem tdV_up {w r t : Int} (hw : 1 ≤ w) (h : ¬ tdV w r t = t) : t < tdV w r t := by
  unfold tdV at h ⊢
  split at h
  · rename_i q
    rw [if_pos q]
    omega
  · exact absurd rfl h
/-- One operation, on the books. -/
theorem KB8.step {F : FS} (hF : fsOK F = true) {i : Nat} {m : FX} (hI : FXI F i m) (hi : i ≤ 400) {conn sent told : Int} {opd may : Bool → Int} (h : KB8 m conn sent told opd may) (k id n : Int) (o : Bool) :
    tldOK told (fstep F m k id n o).2.fr ∧ ((fstep F m k id n o).2.code = 0 → k = 1 → (fstep F m k id n o).2.id = idn F.sv o (opd o) ∧ 0 ≤ opd o ∧ opd o < 1152921504606846976) ∧
    KB8 (fstep F m k id n o).1 (if (fstep F m k id n o).2.code = 0 ∧ k = 6 then max conn n else conn) (sent + (fstep F m k id n o).2.cnt) (tld told (fstep F m k id n o).2.fr)
      (if (fstep F m k id n o).2.code = 0 ∧ k = 1 then updB opd o (opd o + 1) else opd) (if (fstep F m k id n o).2.code = 0 ∧ k = 8 then updB may o (max (may o) n) else may) := by
  obtain ⟨e1, e2, ht, e4, e5⟩ := h
  subst e1 e2 e4 e5
  have hF2 := hF
  simp only [fsOK, decide_eq_true_eq] at hF2
  have hop := hI.op o
  have hmy := hI.my o
  have no : ∀ (c : Int) (m' : FX), (c = 0 → ¬ k = 1 ∧ ¬ k = 6 ∧ ¬ k = 8) → m'.cc = m.cc → sumS m'.L = sumS m.L → m'.tc = m.tc → m'.op = m.op → m'.my = m.my →
      KB8 m' (if c = 0 ∧ k = 6 then max m.cc n else m.cc) (sumS m.L + 0) told (if c = 0 ∧ k = 1 then updB m.op o (m.op o + 1) else m.op) (if c = 0 ∧ k = 8 then updB m.my o (max (m.my o) n) else m.my) := by
    intro c m' hc h1 h2 h3 h4 h5
    rw [if_neg (fun q => (hc q.1).2.1 q.2), if_neg (fun q => (hc q.1).1 q.2), if_neg (fun q => (hc q.1).2.2 q.2)]
    exact ⟨h1.symm, by rw [h2]; omega, by rw [h3]; exact ht, h4.symm, h5.symm⟩
  by_cases k1 : k = 1
  · subst k1
    rw [show fstep F m 1 id n o = fopen F m o from rfl]
    unfold fopen
    by_cases a : m.my o ≤ m.op o
    · rw [if_pos a]
      exact ⟨trivial, fun q => absurd (show (9 : Int) = 0 from q) (by decide), no 9 m (fun q => absurd q (by decide)) rfl rfl rfl rfl rfl⟩
    · rw [if_neg a]
      refine ⟨trivial, fun _ _ => ⟨rfl, by omega, by omega⟩, ?_⟩
      refine ⟨if_neg (fun q => absurd q.2 (by decide)), ?_, ht, if_pos ⟨rfl, rfl⟩, if_neg (fun q => absurd q.2 (by decide))⟩
      show sumS m.L + 0 = sumS (m.L ++ [_])
      rw [sumS_app]; rfl
  by_cases k2 : k = 2
  · subst k2
    rw [show fstep F m 2 id n o = fsend F m id n from rfl]
    unfold fsend
    by_cases a : n < 0
    · rw [if_pos a]
      exact ⟨trivial, fun q => absurd (show (1 : Int) = 0 from q) (by decide), no 1 m (fun q => absurd q (by decide)) rfl rfl rfl rfl rfl⟩
    rw [if_neg a]
    by_cases c : canS F m.L id
    · rw [if_pos c]
      refine ⟨trivial, fun _ q => absurd q (by decide), ?_⟩
      refine ⟨if_neg (fun q => absurd q.2 (by decide)), ?_, ht, if_neg (fun q => absurd q.2 (by decide)), if_neg (fun q => absurd q.2 (by decide))⟩
      show sumS m.L + cntS m id n = sumS (sxSet m.L id _)
      rw [sumS_set _ _ _ c.1]
      show _ = sumS m.L - (sxAt m.L id).sn + ((sxAt m.L id).sn + cntS m id n)
      omega
    · rw [if_neg c]
      exact ⟨trivial, fun q => absurd (show (7 : Int) = 0 from q) (by decide), no 7 m (fun q => absurd q (by decide)) rfl rfl rfl rfl rfl⟩
  by_cases k3 : k = 3
  · subst k3
    rw [show fstep F m 3 id n o = cO (farrive F m id n) from rfl]
    refine ⟨trivial, fun _ q => absurd q (by decide), ?_⟩
    have hw : (fwho F m id).cc = m.cc ∧ sumS (fwho F m id).L = sumS m.L ∧ (fwho F m id).tc = m.tc ∧ (fwho F m id).op = m.op ∧ (fwho F m id).my = m.my := by
      unfold fwho
      split
      · exact ⟨rfl, rfl, rfl, rfl, rfl⟩
      · exact ⟨rfl, addk_sumS _ _ _ _ _ _, rfl, rfl, rfl⟩
    have hp : ∀ m' : FX, (fput F m' id n).1.cc = m'.cc ∧ sumS (fput F m' id n).1.L = sumS m'.L ∧ (fput F m' id n).1.tc = m'.tc ∧ (fput F m' id n).1.op = m'.op ∧ (fput F m' id n).1.my = m'.my := by
      intro m'
      unfold fput
      split
      · rename_i c
        split
        · exact ⟨rfl, rfl, rfl, rfl, rfl⟩
        · refine ⟨rfl, ?_, rfl, rfl, rfl⟩
          show sumS (sxSet m'.L id _) = _
          rw [sumS_set _ _ _ c.1]
          show sumS m'.L - (sxAt m'.L id).sn + (sxAt m'.L id).sn = _
          omega
      · exact ⟨rfl, rfl, rfl, rfl, rfl⟩
    have ha : (farrive F m id n).1.cc = m.cc ∧ sumS (farrive F m id n).1.L = sumS m.L ∧ (farrive F m id n).1.tc = m.tc ∧ (farrive F m id n).1.op = m.op ∧ (farrive F m id n).1.my = m.my := by
      unfold farrive
      split
      · exact ⟨rfl, rfl, rfl, rfl, rfl⟩
      split
      · exact ⟨rfl, rfl, rfl, rfl, rfl⟩
      · obtain ⟨p1, p2, p3, p4, p5⟩ := hp (fwho F m id)
        obtain ⟨q1, q2, q3, q4, q5⟩ := hw
        exact ⟨p1.trans q1, p2.trans q2, p3.trans q3, p4.trans q4, p5.trans q5⟩
    exact no _ _ (fun _ => by decide) ha.1 ha.2.1 ha.2.2.1 ha.2.2.2.1 ha.2.2.2.2
  by_cases k4 : k = 4
  · subst k4
    rw [show fstep F m 4 id n o = fread F m id n from rfl]
    unfold fread
    by_cases c : canG F m.L id
    · rw [if_pos c]
      split
      · exact ⟨trivial, fun q => absurd (show (1 : Int) = 0 from q) (by decide), no 1 m (fun q => absurd q (by decide)) rfl rfl rfl rfl rfl⟩
      · have hs : sumS (sxSet m.L id { sxAt m.L id with rd := (sxAt m.L id).rd + n, td := tdV F.sw ((sxAt m.L id).rd + n) (sxAt m.L id).td }) = sumS m.L := by
          rw [sumS_set _ _ _ c.1]
          show sumS m.L - (sxAt m.L id).sn + (sxAt m.L id).sn = _
          omega
        have hg : ∀ told' : Int, told' ≤ m.tc → tldOK told' (if tdV F.cw (m.rc + n) m.tc = m.tc then [] else [(16, tdV F.cw (m.rc + n) m.tc, 0)]) ∧ tld told' (if tdV F.cw (m.rc + n) m.tc = m.tc then [] else [(16, tdV F.cw (m.rc + n) m.tc, 0)]) ≤ tdV F.cw (m.rc + n) m.tc := by
          intro told' h'
          split
          · rename_i q
            exact ⟨trivial, by rw [q]; exact h'⟩
          · rename_i q
            have := tdV_up (show 1 ≤ F.cw by omega) q
            exact ⟨⟨fun _ => by show told' < tdV F.cw (m.rc + n) m.tc; omega, trivial⟩, by simp [tld]⟩
        have hb : tldOK told ((if tdV F.sw ((sxAt m.L id).rd + n) (sxAt m.L id).td = (sxAt m.L id).td then [] else [(17, id, tdV F.sw ((sxAt m.L id).rd + n) (sxAt m.L id).td)]) ++ (if tdV F.cw (m.rc + n) m.tc = m.tc then [] else [(16, tdV F.cw (m.rc + n) m.tc, 0)])) ∧
            tld told ((if tdV F.sw ((sxAt m.L id).rd + n) (sxAt m.L id).td = (sxAt m.L id).td then [] else [(17, id, tdV F.sw ((sxAt m.L id).rd + n) (sxAt m.L id).td)]) ++ (if tdV F.cw (m.rc + n) m.tc = m.tc then [] else [(16, tdV F.cw (m.rc + n) m.tc, 0)])) ≤ tdV F.cw (m.rc + n) m.tc := by
          obtain ⟨g1, g2⟩ := hg told ht
          by_cases q : tdV F.sw ((sxAt m.L id).rd + n) (sxAt m.L id).td = (sxAt m.L id).td
          · rw [if_pos q]; exact ⟨g1, g2⟩
          · rw [if_neg q]
            exact ⟨⟨fun z => absurd (show (17 : Int) = 16 from z) (by decide), g1⟩, g2⟩
        refine ⟨hb.1, fun _ q => absurd q (by decide), ?_⟩
        refine ⟨if_neg (fun q => absurd q.2 (by decide)), ?_, hb.2, if_neg (fun q => absurd q.2 (by decide)), if_neg (fun q => absurd q.2 (by decide))⟩
        show sumS m.L + 0 = sumS (sxSet m.L id _)
        rw [hs]; omega
    · rw [if_neg c]
      exact ⟨trivial, fun q => absurd (show (7 : Int) = 0 from q) (by decide), no 7 m (fun q => absurd q (by decide)) rfl rfl rfl rfl rfl⟩
  by_cases k5 : k = 5
  · subst k5
    rw [show fstep F m 5 id n o = fend F m id from rfl]
    unfold fend
    by_cases c : lasts F m.L id
    · have hs : sumS (sxSet m.L id { sxAt m.L id with ov := true }) = sumS m.L := by
        rw [sumS_set _ _ _ c.1]
        show sumS m.L - (sxAt m.L id).sn + (sxAt m.L id).sn = _
        omega
      rw [if_pos c]
      split
      · exact ⟨trivial, fun _ q => absurd q (by decide), no 0 _ (fun _ => by decide) rfl hs rfl rfl rfl⟩
      · refine ⟨⟨fun z => absurd (show (18 : Int) = 16 from z) (by decide), trivial⟩, fun _ q => absurd q (by decide), ?_⟩
        exact no 0 _ (fun _ => by decide) rfl hs rfl rfl rfl
    · rw [if_neg c]
      exact ⟨trivial, fun q => absurd (show (7 : Int) = 0 from q) (by decide), no 7 m (fun q => absurd q (by decide)) rfl rfl rfl rfl rfl⟩
  by_cases k6 : k = 6
  · subst k6
    rw [show fstep F m 6 id n o = cO (fdin m n) from rfl]
    unfold fdin
    by_cases a : n < 0 ∨ 4611686018427387903 < n
    · rw [if_pos a]
      exact ⟨trivial, fun q => absurd (show (1 : Int) = 0 from q) (by decide), no 1 m (fun q => absurd q (by decide)) rfl rfl rfl rfl rfl⟩
    · rw [if_neg a]
      refine ⟨trivial, fun _ q => absurd q (by decide), ?_⟩
      exact ⟨if_pos ⟨rfl, rfl⟩, by show sumS m.L + 0 = sumS m.L; omega, ht, if_neg (fun q => absurd q.2 (by decide)), if_neg (fun q => absurd q.2 (by decide))⟩
  by_cases k7 : k = 7
  · subst k7
    rw [show fstep F m 7 id n o = cO (fsin F m id n) from rfl]
    unfold fsin
    by_cases a : n < 0 ∨ 4611686018427387903 < n
    · rw [if_pos a]
      exact ⟨trivial, fun q => absurd (show (1 : Int) = 0 from q) (by decide), no 1 m (fun q => absurd q (by decide)) rfl rfl rfl rfl rfl⟩
    rw [if_neg a]
    by_cases c : canS F m.L id
    · rw [if_pos c]
      refine ⟨trivial, fun _ q => absurd q (by decide), no 0 _ (fun _ => by decide) rfl ?_ rfl rfl rfl⟩
      show sumS (sxSet m.L id _) = _
      rw [sumS_set _ _ _ c.1]
      show sumS m.L - (sxAt m.L id).sn + (sxAt m.L id).sn = _
      omega
    · rw [if_neg c]
      exact ⟨trivial, fun q => absurd (show (7 : Int) = 0 from q) (by decide), no 7 m (fun q => absurd q (by decide)) rfl rfl rfl rfl rfl⟩
  by_cases k8 : k = 8
  · subst k8
    rw [show fstep F m 8 id n o = cO (fmin m o n) from rfl]
    unfold fmin
    by_cases a : n < 0 ∨ 1152921504606846976 < n
    · rw [if_pos a]
      exact ⟨trivial, fun q => absurd (show (1 : Int) = 0 from q) (by decide), no 1 m (fun q => absurd q (by decide)) rfl rfl rfl rfl rfl⟩
    · rw [if_neg a]
      refine ⟨trivial, fun _ q => absurd q (by decide), ?_⟩
      exact ⟨if_neg (fun q => absurd q.2 (by decide)), by show sumS m.L + 0 = sumS m.L; omega, ht, if_neg (fun q => absurd q.2 (by decide)), if_pos ⟨rfl, rfl⟩⟩
  · have e : fstep F m k id n o = (m, ⟨1, 0, 0, []⟩) := by
      unfold fstep
      rw [if_neg k1, if_neg k2, if_neg k3, if_neg k4, if_neg k5, if_neg k6, if_neg k7, if_neg k8]
    rw [e]
    exact ⟨trivial, fun q => absurd (show (1 : Int) = 0 from q) (by decide), no 1 m (fun q => absurd q (by decide)) rfl rfl rfl rfl rfl⟩
/-- What the law asks behind each operation. -/
theorem KB8.holds {F : FS} {i : Nat} {m : FX} (hI : FXI F i m) {conn sent told : Int} {opd may : Bool → Int} (h : KB8 m conn sent told opd may) : sent ≤ conn ∧ ∀ o, opd o ≤ may o := by
  refine ⟨by rw [h.sent, h.conn]; exact hI.cc.1, fun o => ?_⟩
  rw [h.opd, h.may]
  exact (hI.op o).2.1
end Go.Proofs.Ythjakbpcpfmbjaa
