import Derived.Test.YthjakbpcpfmbjaaKb_I
import Derived.Test.YthjakbpcpfmbjaaFlApp
import Derived.Test.YthjakbpcpfmbjaaKb_K
import Derived.Test.YthjakbpcpfmbjaaKb_E
import Derived.Test.YthjakbpcpfmbjaaKb_J
import Derived.Deep.LoopGhost
import Derived.Deep.CutRange
import Derived.Deep.CutBlock
import Derived.BigQuiet
import Derived.BigRegion
import Derived.Test.YthjakbpcpfmbjaaRows
import Derived.Test.YthjakbpcpfmbjaaLift
import Derived.Lib.LaidTab
namespace Go.Proofs.Ythjakbpcpfmbjaa
open Go.RowKit
set_option linter.unusedVariables false
set_option linter.unusedSimpArgs false

/-- FnCredits: the setups of the two ends. -/
def faS (C S : Int) : FS := ⟨false, 10, 10, 0, 0, C, S, 1, 0⟩
def fbS (C S : Int) : FS := ⟨true, C, S, 1, 0, 10, 10, 0, 0⟩
/-- The sending end, behind its opening: what was sent, the credit of the stream, of the connection. -/
def maX (C S sent stream conn : Int) : FX := { fx0 (faS C S) with L := [⟨0, stream, sent, 10, 0, 0, false⟩], op := updB (fun _ => 0) false 1, cc := conn }
/-- The receiving end: what came and was read, the credit told. -/
def mbX (C S stream conn cm rd : Int) : FX := { fx0 (fbS C S) with L := [⟨0, 10, 0, stream, cm, rd, false⟩], th := updB (fun _ => 0) false 1, tc := conn, rc := rd }
theorem ixf_one (s : SX) (h : s.id = 0) : ixf [s] 0 = 0 := by
  unfold ixf
  rw [List.findIdx_cons, decide_eq_true h]
  rfl
theorem pt0 : ptS 0 = false ∧ ptO 0 = false := by constructor <;> decide
theorem cred_valid (C S : Int) : fsOK (fbS C S) = true ↔ 1 ≤ C ∧ C ≤ 16384 ∧ 1 ≤ S ∧ S ≤ 16384 := by
  unfold fsOK fbS
  simp only [decide_eq_true_eq]
  omega
theorem cred_validA (C S : Int) (h : fsOK (fbS C S) = true) : fsOK (faS C S) = true := by
  have := (cred_valid C S).1 h
  unfold fsOK faS
  simp only [decide_eq_true_eq]
  omega
theorem credA0 (C S : Int) : fstep (faS C S) (fx0 (faS C S)) 1 0 0 false = (maX C S 0 S C, ⟨0, 0, 0, []⟩) := by
  show fopen (faS C S) (fx0 (faS C S)) false = _
  unfold fopen
  rw [if_neg (by show ¬ ((1 : Int) ≤ 0); decide)]
  rfl
theorem sxAt_one (s : SX) (h : s.id = 0) : sxAt [s] 0 = s := by unfold sxAt; rw [ixf_one s h]; rfl
theorem sxSet_one (s x : SX) (h : s.id = 0) : sxSet [s] 0 x = [x] := by unfold sxSet; rw [ixf_one s h]; rfl
theorem sumS_one (s : SX) : sumS [s] = s.sn := by simp [sumS]
theorem sumC_one (s : SX) : sumC [s] = s.cm := by simp [sumC]
def cntA (sent stream conn : Int) : Int := min (min 100000 (stream - sent)) (conn - sent)
theorem credA1 (C S sent stream conn : Int) : fstep (faS C S) (maX C S sent stream conn) 2 0 100000 false = (maX C S (sent + cntA sent stream conn) stream conn, ⟨0, 0, cntA sent stream conn, []⟩) := by
  show fsend (faS C S) (maX C S sent stream conn) 0 100000 = _
  have e1 : (maX C S sent stream conn).L = [⟨0, stream, sent, 10, 0, 0, false⟩] := rfl
  have e2 : cntS (maX C S sent stream conn) 0 100000 = cntA sent stream conn := by
    unfold cntS cntA
    rw [e1, sxAt_one _ rfl, sumS_one]
    rfl
  unfold fsend
  rw [if_neg (by decide), if_pos, e2, e1, sxSet_one _ _ rfl, sxAt_one _ rfl]
  · rfl
  · unfold canS
    rw [e1, ixf_one _ rfl]
    exact ⟨by simp, Or.inr pt0.2⟩
theorem credA7 (C S sent stream conn N : Int) (h0 : 0 ≤ N) (h1 : N ≤ 4611686018427387903) (h2 : stream ≤ N) : fstep (faS C S) (maX C S sent stream conn) 7 0 N false = (maX C S sent N conn, ⟨0, 0, 0, []⟩) := by
  show cO (fsin (faS C S) (maX C S sent stream conn) 0 N) = _
  have e1 : (maX C S sent stream conn).L = [⟨0, stream, sent, 10, 0, 0, false⟩] := rfl
  unfold fsin
  rw [if_neg (by omega), if_pos, e1, sxSet_one _ _ rfl, sxAt_one _ rfl]
  · unfold cO
    dsimp only
    rw [Int.max_eq_right h2]
    rfl
  · unfold canS
    rw [e1, ixf_one _ rfl]
    exact ⟨by simp, Or.inr pt0.2⟩
theorem credA6 (C S sent stream conn N : Int) (h0 : 0 ≤ N) (h1 : N ≤ 4611686018427387903) (h2 : conn ≤ N) : fstep (faS C S) (maX C S sent stream conn) 6 0 N false = (maX C S sent stream N, ⟨0, 0, 0, []⟩) := by
  show cO (fdin (maX C S sent stream conn) N) = _
  unfold fdin
  rw [if_neg (by omega)]
  unfold cO
  dsimp only
  rw [show max (maX C S sent stream conn).cc N = N from Int.max_eq_right h2]
  rfl
theorem fput_one (C S stream conn cm rd n : Int) (h1 : cm ≤ n) (h2 : n ≤ stream) (h3 : n ≤ conn) : fput (fbS C S) (mbX C S stream conn cm rd) 0 n = (mbX C S stream conn n rd, 0) := by
  have e1 : (mbX C S stream conn cm rd).L = [⟨0, 10, 0, stream, cm, rd, false⟩] := rfl
  unfold fput
  rw [if_pos, e1, sxAt_one _ rfl, sumC_one, if_neg, sxSet_one _ _ rfl]
  · dsimp only
    rw [Int.max_eq_left h1]
    rfl
  · dsimp only
    rw [Int.max_eq_left h1, show (mbX C S stream conn cm rd).tc = conn from rfl]
    omega
  · unfold canG
    rw [e1, ixf_one _ rfl]
    exact ⟨by simp, Or.inr pt0.2⟩
theorem credB3 (C S stream conn cm rd n : Int) (h0 : 0 ≤ n) (hb : n ≤ 4611686018427387903) (h1 : cm ≤ n) (h2 : n ≤ stream) (h3 : n ≤ conn) : fstep (fbS C S) (mbX C S stream conn cm rd) 3 0 n false = (mbX C S stream conn n rd, ⟨0, 0, 0, []⟩) := by
  show cO (farrive (fbS C S) (mbX C S stream conn cm rd) 0 n) = _
  unfold farrive
  rw [if_neg (by omega), if_neg, show fwho (fbS C S) (mbX C S stream conn cm rd) 0 = mbX C S stream conn cm rd from ?_, fput_one C S stream conn cm rd n h1 h2 h3]
  · rfl
  · unfold fwho
    rw [if_neg (by rw [pt0.1]; simp [fbS])]
    unfold fadm
    rw [pt0.2]
    have e : ((0 : Int) / 4 + 1 - (mbX C S stream conn cm rd).th false).toNat = 0 := by show ((0 : Int) / 4 + 1 - 1).toNat = 0; decide
    rw [e]
    show { mbX C S stream conn cm rd with th := updB (mbX C S stream conn cm rd).th false ((mbX C S stream conn cm rd).th false + 0) } = mbX C S stream conn cm rd
    have e2 : updB (mbX C S stream conn cm rd).th false ((mbX C S stream conn cm rd).th false + 0) = (mbX C S stream conn cm rd).th := by
      funext j
      cases j <;> rfl
    rw [e2]
  · rw [pt0.2]
    show ¬ (_ ∧ (1 : Int) ≤ 0 / 4)
    intro h
    exact absurd h.2 (by decide)
theorem credB3z (C S n : Int) (h0 : 0 ≤ n) (hb : n ≤ 4611686018427387903) (h2 : n ≤ S) (h3 : n ≤ C) : fstep (fbS C S) (fx0 (fbS C S)) 3 0 n false = (mbX C S S C n 0, ⟨0, 0, 0, []⟩) := by
  show cO (farrive (fbS C S) (fx0 (fbS C S)) 0 n) = _
  unfold farrive
  rw [if_neg (by omega), if_neg, show fwho (fbS C S) (fx0 (fbS C S)) 0 = mbX C S S C 0 0 from ?_, fput_one C S S C 0 0 n h0 h2 h3]
  · rfl
  · unfold fwho
    rw [if_neg (by rw [pt0.1]; simp [fbS])]
    unfold fadm
    rw [pt0.2]
    have e : ((0 : Int) / 4 + 1 - (fx0 (fbS C S)).th false).toNat = 1 := by show ((0 : Int) / 4 + 1 - 0).toNat = 1; decide
    rw [e]
    rfl
  · rw [pt0.2]
    show ¬ (_ ∧ (1 : Int) ≤ 0 / 4)
    intro h
    exact absurd h.2 (by decide)
/-- The frames that a reading tells. -/
def frB (C S stream conn rd : Int) : List (Int × Int × Int) := (if tdV S rd stream = stream then [] else [(17, 0, tdV S rd stream)]) ++ (if tdV C rd conn = conn then [] else [(16, tdV C rd conn, 0)])
theorem credB4 (C S stream conn cm rd n : Int) (h0 : 1 ≤ n) (h1 : rd + n = cm) : fstep (fbS C S) (mbX C S stream conn cm rd) 4 0 n false = (mbX C S (tdV S cm stream) (tdV C cm conn) cm cm, ⟨0, 0, 0, frB C S stream conn cm⟩) := by
  show fread (fbS C S) (mbX C S stream conn cm rd) 0 n = _
  have e1 : (mbX C S stream conn cm rd).L = [⟨0, 10, 0, stream, cm, rd, false⟩] := rfl
  unfold fread
  rw [if_pos, e1, sxAt_one _ rfl, if_neg, sxSet_one _ _ rfl]
  · dsimp only
    rw [show (mbX C S stream conn cm rd).rc = rd from rfl, h1]
    rfl
  · dsimp only
    omega
  · unfold canG
    rw [e1, ixf_one _ rfl]
    exact ⟨by simp, Or.inr pt0.2⟩
/-- What is told stays above what was read. -/
theorem tdV_bd {w r t : Int} (hw : 1 ≤ w ∧ w ≤ 16384) (h0 : r ≤ t) : r < tdV w r t ∧ t ≤ tdV w r t ∧ tdV w r t ≤ max t (r + w) := by
  unfold tdV
  split
  · rename_i q
    refine ⟨by omega, ?_, by omega⟩
    have : (w + 1) / 2 ≤ r + w - t := q
    omega
  · rename_i q
    refine ⟨?_, Int.le_refl _, by omega⟩
    have : ¬ (w + 1) / 2 ≤ r + w - t := q
    omega
theorem frunP_app (F : FS) (R T : List SFlowOp) : ∀ k, k ≤ R.length → frunP F (R ++ T) k = frunP F R k
  | 0, _ => rfl
  | k + 1, hk => by
    show (fstepO F (frunP F (R ++ T) k) ((R ++ T).getD k default)).1 = (fstepO F (frunP F R k) (R.getD k default)).1
    rw [frunP_app F R T k (by omega)]
    congr 2
    simp [List.getD, List.getElem?_append_left (show k < R.length by omega)]
/-- The credit behind all operations. -/
def frunL (F : FS) (R : List SFlowOp) : FX := frunP F R R.length
theorem frunL_snoc (F : FS) (R : List SFlowOp) (x : SFlowOp) : frunL F (R ++ [x]) = (fstepO F (frunL F R) x).1 := by
  unfold frunL
  rw [List.length_append, List.length_singleton]
  show (fstepO F (frunP F (R ++ [x]) R.length) ((R ++ [x]).getD R.length default)).1 = _
  rw [frunP_app F R [x] _ (Nat.le_refl _)]
  simp
theorem fobs_last (F : FS) (R : List SFlowOp) (x : SFlowOp) : fobsAt F (R ++ [x]) R.length = (fstepO F (frunL F R) x).2 := by
  unfold fobsAt frunL
  rw [frunP_app F R [x] _ (Nat.le_refl _)]
  simp
theorem fobs_app (F : FS) (R T : List SFlowOp) (k : Nat) (hk : k < R.length) : fobsAt F (R ++ T) k = fobsAt F R k := by
  unfold fobsAt
  rw [frunP_app F R T k (by omega)]
  congr 2
  simp [List.getD, List.getElem?_append_left hk]
/-- What holds of both ends' lists ahead of a round. -/
structure CrI (C S : Int) (i : Nat) (one two : List SFlowOp) (sent stream conn : Int) : Prop where
  a : frunL (faS C S) one = maX C S sent stream conn
  b : (i = 0 ∧ two = [] ∧ sent = 0 ∧ stream = S ∧ conn = C) ∨ (frunL (fbS C S) two = mbX C S stream conn sent sent)
  s0 : 0 ≤ sent ∧ sent < stream ∧ sent < conn
  s1 : stream ≤ 16384 * ((i : Int) + 1) ∧ conn ≤ 16384 * ((i : Int) + 1) 
  la : 1 ≤ one.length ∧ one.length ≤ 1 + 3 * i
  lb : two.length = 2 * i
  ida : ∀ o ∈ one, o.f1 = 0
  idb : ∀ o ∈ two, o.f1 = 0
theorem CrI.zero {C S : Int} (h : fsOK (fbS C S) = true) : CrI C S 0 [⟨1, 0, 0, false⟩] [] 0 S C := by
  have hv := (cred_valid C S).1 h
  refine ⟨?_, Or.inl ⟨rfl, rfl, rfl, rfl, rfl⟩, by omega, by omega, by simp, rfl, by simp, by simp⟩
  exact congrArg Prod.fst (credA0 C S)
/-- What a round's sending answers. -/
theorem CrI.send {C S : Int} {i : Nat} {one two : List SFlowOp} {sent stream conn : Int} (h : CrI C S i one two sent stream conn) :
    fobsAt (faS C S) (one ++ [⟨2, 0, 100000, false⟩]) one.length = ⟨0, 0, cntA sent stream conn, []⟩ ∧ 1 ≤ cntA sent stream conn ∧ sent + cntA sent stream conn ≤ stream ∧ sent + cntA sent stream conn ≤ conn := by
  refine ⟨?_, ?_⟩
  · rw [fobs_last, h.a]
    exact congrArg Prod.snd (credA1 C S sent stream conn)
  · have := h.s0
    unfold cntA
    omega
/-- What a round's reading answers. -/
theorem CrI.read {C S : Int} {i : Nat} {one two : List SFlowOp} {sent stream conn : Int} (hv : fsOK (fbS C S) = true) (hi : i < 12) (h : CrI C S i one two sent stream conn) (n : Int) (en : n = cntA sent stream conn) :
    fobsAt (fbS C S) (two ++ [⟨3, 0, sent + n, false⟩, ⟨4, 0, n, false⟩]) two.length = ⟨0, 0, 0, []⟩ ∧
    fobsAt (fbS C S) (two ++ [⟨3, 0, sent + n, false⟩, ⟨4, 0, n, false⟩]) (two.length + 1) = ⟨0, 0, 0, frB C S stream conn (sent + n)⟩ ∧
    frunL (fbS C S) (two ++ [⟨3, 0, sent + n, false⟩, ⟨4, 0, n, false⟩]) = mbX C S (tdV S (sent + n) stream) (tdV C (sent + n) conn) (sent + n) (sent + n) := by
  have hc := h.send.2
  rw [← en] at hc
  have hs := h.s0
  have hs1 := h.s1
  have e : two ++ [⟨3, 0, sent + n, false⟩, ⟨4, 0, n, false⟩] = (two ++ [⟨3, 0, sent + n, false⟩]) ++ [(⟨4, 0, n, false⟩ : SFlowOp)] := by simp
  have hb : fstep (fbS C S) (frunL (fbS C S) two) 3 0 (sent + n) false = (mbX C S stream conn (sent + n) sent, ⟨0, 0, 0, []⟩) := by
    rcases h.b with ⟨_, b1, b2, b3, b4⟩ | b
    · rw [b1, b2, b3, b4]
      rw [b2, b3, b4] at hc
      exact credB3z C S (0 + n) (by omega) (by omega) (by omega) (by omega)
    · rw [b]
      exact credB3 C S stream conn sent sent (sent + n) (by omega) (by omega) (by omega) (by omega) (by omega)
  have h1 : frunL (fbS C S) (two ++ [⟨3, 0, sent + n, false⟩]) = mbX C S stream conn (sent + n) sent := by
    rw [frunL_snoc]
    exact congrArg Prod.fst hb
  have h2 := credB4 C S stream conn (sent + n) sent n (by omega) rfl
  refine ⟨?_, ?_, ?_⟩
  · rw [e, fobs_app _ _ _ _ (by simp), fobs_last]
    exact congrArg Prod.snd hb
  · rw [e, show two.length + 1 = (two ++ [(⟨3, 0, sent + n, false⟩ : SFlowOp)]).length by simp, fobs_last, h1]
    exact congrArg Prod.snd h2
  · rw [e, frunL_snoc, h1]
    exact congrArg Prod.fst h2
/-- The operations by which the frames are told. -/
def opsF (fr : List (Int × Int × Int)) : List SFlowOp := fr.map fun f => if f.1 = 17 then ⟨7, 0, f.2.2, false⟩ else ⟨6, 0, f.2.1, false⟩
theorem CrI.next {C S : Int} {i : Nat} {one two : List SFlowOp} {sent stream conn : Int} (hv : fsOK (fbS C S) = true) (hi : i < 12) (h : CrI C S i one two sent stream conn) (n : Int) (en : n = cntA sent stream conn) :
    CrI C S (i + 1) (one ++ [⟨2, 0, 100000, false⟩] ++ opsF (frB C S stream conn (sent + n))) (two ++ [⟨3, 0, sent + n, false⟩, ⟨4, 0, n, false⟩]) (sent + n) (tdV S (sent + n) stream) (tdV C (sent + n) conn) := by
  have hw := (cred_valid C S).1 hv
  have hc := h.send.2
  rw [← en] at hc
  have hs := h.s0
  have hs1 := h.s1
  have hS := tdV_bd (w := S) (r := sent + n) (t := stream) (by omega) (by omega)
  have hC := tdV_bd (w := C) (r := sent + n) (t := conn) (by omega) (by omega)
  have h1 : frunL (faS C S) (one ++ [⟨2, 0, 100000, false⟩]) = maX C S (sent + n) stream conn := by
    rw [frunL_snoc, h.a, en]
    exact congrArg Prod.fst (credA1 C S sent stream conn)
  refine ⟨?_, Or.inr (h.read hv hi n en).2.2, by omega, by omega, ?_, ?_, ?_, ?_⟩
  · unfold frB
    by_cases p : tdV S (sent + n) stream = stream
    · rw [if_pos p]
      by_cases q : tdV C (sent + n) conn = conn
      · rw [if_pos q, p, q]
        simpa [opsF] using h1
      · rw [if_neg q, p]
        show frunL (faS C S) (one ++ [⟨2, 0, 100000, false⟩] ++ [⟨6, 0, tdV C (sent + n) conn, false⟩]) = _
        rw [frunL_snoc, h1]
        exact congrArg Prod.fst (credA6 C S (sent + n) stream conn (tdV C (sent + n) conn) (by omega) (by omega) (by omega))
    · rw [if_neg p]
      have h2 : frunL (faS C S) (one ++ [⟨2, 0, 100000, false⟩] ++ [⟨7, 0, tdV S (sent + n) stream, false⟩]) = maX C S (sent + n) (tdV S (sent + n) stream) conn := by
        rw [frunL_snoc, h1]
        exact congrArg Prod.fst (credA7 C S (sent + n) stream conn (tdV S (sent + n) stream) (by omega) (by omega) (by omega))
      by_cases q : tdV C (sent + n) conn = conn
      · rw [if_pos q, q]
        exact h2
      · rw [if_neg q]
        show frunL (faS C S) (one ++ [⟨2, 0, 100000, false⟩] ++ [⟨7, 0, tdV S (sent + n) stream, false⟩, ⟨6, 0, tdV C (sent + n) conn, false⟩]) = _
        rw [show one ++ [⟨2, 0, 100000, false⟩] ++ [⟨7, 0, tdV S (sent + n) stream, false⟩, ⟨6, 0, tdV C (sent + n) conn, false⟩] = (one ++ [⟨2, 0, 100000, false⟩] ++ [⟨7, 0, tdV S (sent + n) stream, false⟩]) ++ [(⟨6, 0, tdV C (sent + n) conn, false⟩ : SFlowOp)] by simp, frunL_snoc, h2]
        exact congrArg Prod.fst (credA6 C S (sent + n) (tdV S (sent + n) stream) conn (tdV C (sent + n) conn) (by omega) (by omega) (by omega))
  · have hl : (frB C S stream conn (sent + n)).length ≤ 2 := by unfold frB; split <;> split <;> simp
    have hla := h.la
    simp only [List.length_append, List.length_singleton, opsF, List.length_map]
    omega
  · rw [List.length_append, h.lb]; simp; omega
  · intro o ho
    rcases List.mem_append.1 ho with ho | ho
    · rcases List.mem_append.1 ho with ho | ho
      · exact h.ida o ho
      · obtain rfl := List.mem_singleton.1 ho; rfl
    · obtain ⟨f, _, rfl⟩ := List.mem_map.1 ho
      split <;> rfl
  · intro o ho
    rcases List.mem_append.1 ho with ho | ho
    · exact h.idb o ho
    · simp only [List.mem_cons, List.not_mem_nil, or_false] at ho
      rcases ho with rfl | rfl <;> rfl
/-- Amid the frames: each is told, and is above what was told. -/
theorem frB_at (C S stream conn rd : Int) (k : Nat) (hk : k < (frB C S stream conn rd).length) :
    ((frB C S stream conn rd).getD k default = (17, 0, tdV S rd stream) ∧ k = 0 ∧ tdV S rd stream ≠ stream) ∨ ((frB C S stream conn rd).getD k default = (16, tdV C rd conn, 0) ∧ k + 1 = (frB C S stream conn rd).length ∧ tdV C rd conn ≠ conn) := by
  unfold frB at hk ⊢
  by_cases p : tdV S rd stream = stream
  · rw [if_pos p] at hk ⊢
    by_cases q : tdV C rd conn = conn
    · rw [if_pos q] at hk; simp at hk
    · rw [if_neg q] at hk ⊢
      obtain rfl : k = 0 := by simpa using hk
      exact Or.inr ⟨rfl, rfl, q⟩
  · rw [if_neg p] at hk ⊢
    by_cases q : tdV C rd conn = conn
    · rw [if_pos q] at hk ⊢
      obtain rfl : k = 0 := by simpa using hk
      exact Or.inl ⟨rfl, rfl, p⟩
    · rw [if_neg q] at hk ⊢
      have : k = 0 ∨ k = 1 := by simp at hk; omega
      rcases this with rfl | rfl
      · exact Or.inl ⟨rfl, rfl, p⟩
      · exact Or.inr ⟨rfl, rfl, q⟩
end Go.Proofs.Ythjakbpcpfmbjaa

namespace Go.Proofs.Ythjakbpcpfmbjaa
open Go.RowKit
set_option linter.unusedVariables false

/-- Where the answer of an append lies: where it lay, or in a block of its own. -/
theorem append_place {P : Program} (w : World) (base : Nat) (t ty e : TypeId) (i : TypeInfo) (z : Value) (size bytes : Nat) (ht : P.underlying t = some (.slice e)) (hi : P.info? e = some i) (hz : i.zero = some z)
    (hsize : i.size = size) (hby : i.bytes = bytes) (hzs : z.cells.size = size) (hsz : 0 < size)
    (v : Value) (n : Nat) (xs : List Value) (hown : w.ownsRow base e size v n xs)
    (a : Addr) (m c : Nat) (news : List Value) (hl : news.length = m * size) (hnews : ∀ j u, news[j]? = some u → w.cell? (a.add j) = some u) (h1 : ∀ u ∈ news, u.oneCell' = true)
    (h63 : n + m ≤ maxLen) (hbytes : (n + m) * bytes ≤ 140737488355328) (hm0 : 0 < m) (v' : Value) (w' : World)
    (hrun : (Builtin.append_ #[t, t] ty #[v, .slice (some a) m c]).run P w = .ok v' w') : v'.ownBlock = v.ownBlock ∨ v'.ownBlock = some w.heap.size := by
  subst hsize
  subst hby
  have hsmall : n + m ≤ 9223372036854775807 := by simp only [maxLen] at h63; omega
  rcases hown.2 with ⟨rfl, rfl⟩ | ⟨g, cap, cur, rfl, hbg, hg, hnc, hcm, hcs, htake⟩
  · have hr := run_append_nil (P := P) w t ty e i z ht hi hz a m c news hl hnews (by omega) (by omega) (by have hb := hbytes; simp only [Nat.zero_add] at hb; omega)
    rw [hr] at hrun
    cases hrun
    exact Or.inr rfl
  · by_cases hroom : n + m ≤ cap
    · have hfit : n * i.size + news.length ≤ cur.size := by rw [hl, hcs, ← Nat.add_mul]; exact Nat.mul_le_mul_right _ hroom
      have hr := run_append_room (P := P) w t ty e i ht hi g n cap cur hg a m c news hl hnews h1 hroom hfit
      rw [hr] at hrun
      cases hrun
      exact Or.inl rfl
    · have holds : ∀ j u, xs[j]? = some u → w.cell? ((⟨g, 0, none⟩ : Addr).add j) = some u := hown.cells (g := g) rfl
      have hr := run_append_grow (P := P) w t ty e i z ht hi hz ⟨g, 0, none⟩ n cap xs hown.1 holds a m c news hl hnews (by omega) (by omega) (growslice_fits (by omega) hbytes)
      rw [hr] at hrun
      cases hrun
      exact Or.inr rfl
theorem run_append_flatP {w : World} (tA ty T : TypeId) (htA : Try.prog.underlying tA = some (.slice T)) (i0 : TypeInfo) (z : Value) (K B : Nat) (hi : Try.prog.info? T = some i0) (hz0 : i0.zero = some z) (hz1 : i0.size = K) (hz2 : i0.bytes = B) (hzc : z.cells.size = K) (hK : 0 < K) (hB : B ≤ 128)
    (base : Nat) (v : Value) (R : List (List Value)) (hR : FlatK K R) (hown : GOwns T K w base v R) (v2 : Value) (S : List (List Value)) (hS : FlatK K S) (hrow : GRow K w v2 S) (h63 : R.length + S.length ≤ 1099511627776) (hbase : base ≤ w.heap.size) :
    ∃ v' w', (Builtin.append_ #[tA, tA] ty #[v, v2]).run Try.prog w = .ok v' w' ∧ GOwns T K w' base v' (R ++ S) ∧ w.grownBy w' v.ownBlock ∧ (v'.ownBlock = v.ownBlock ∨ v'.ownBlock = some w.heap.size) := by
  obtain ⟨v', w', hr, h2, h3⟩ := run_append_flat tA ty T htA i0 z K B hi hz0 hz1 hz2 hzc hK hB base v R hR hown v2 S hS hrow h63 hbase
  refine ⟨v', w', hr, h2, h3, ?_⟩
  by_cases h0 : 0 < S.length
  · obtain ⟨b, off, cap, rfl, hb, hc⟩ := hrow.at' h0
    exact append_place (P := Try.prog) w base tA ty T i0 z K B htA hi hz0 hz1 hz2 hzc hK v R.length R.flatten (hown.flat hK hR) ⟨b, off, none⟩ S.length cap S.flatten (flat_len hS) (fun j u hj => flat_read hK hS hc j u hj) (flat_one hS) (by unfold maxLen; omega) (Nat.le_trans (Nat.mul_le_mul h63 hB) (by decide)) h0 v' w' hr
  · have hn : S = [] := List.eq_nil_of_length_eq_zero (by omega)
    subst hn
    obtain ⟨ao, cap, rfl⟩ := hrow.form
    rw [show ([] : List (List Value)).length = 0 from rfl, run_append_owned_zero (P := Try.prog) (w := w) base tA ty T i0 K htA hi v R.length R.flatten ao cap (hown.flat hK hR)] at hr
    cases hr
    exact Or.inl rfl
theorem wpList_append_flatP {w : World} {ops : Array Oper} {rest : List Oper} {o : Oper} {a : Act} {Q : Exit → Act → World → Prop} (hgd : o.guard = none) (p q : Operand) (tA T : TypeId) (htA : Try.prog.underlying tA = some (.slice T)) (z : Value) (K B : Nat) (hinfo : (Try.prog.info? T).map (fun i => (i.zero, i.size, i.bytes)) = some (some z, K, B)) (hzc : z.cells.size = K) (hK : 0 < K) (hB : B ≤ 128)
    (ho : o.op = .call { callee := .builtin .append, args := #[p, q], argTypes := #[tA, tA] })
    (base : Nat) (v : Value) (R : List (List Value)) (hR : FlatK K R) (hp : a.eval p = v) (hown : GOwns T K w base v R) (v2 : Value) (S : List (List Value)) (hS : FlatK K S) (hq : a.eval q = v2) (hrow : GRow K w v2 S) (h63 : R.length + S.length ≤ 1099511627776) (hbase : base ≤ w.heap.size)
    (h : ∀ v' w', GOwns T K w' base v' (R ++ S) → w.grownBy w' v.ownBlock → (v'.ownBlock = v.ownBlock ∨ v'.ownBlock = some w.heap.size) → wpList Try.prog ops Q rest (a.put o.dst v') w') :
    wpList Try.prog ops Q (o :: rest) a w := by
  obtain ⟨i0, hi, hz0, hz1, hz2⟩ := info_parts hinfo
  obtain ⟨v', w', hr, h2, h3, h4⟩ := run_append_flatP tA o.type T htA i0 z K B hi hz0 hz1 hz2 hzc hK hB base v R hR hown v2 S hS hrow h63 hbase
  refine wpList_plain hgd fun K hK => ?_
  unfold Oper.wp
  simp [execOp, ho, resolve, invoke, builtin, hp, hq, hr, Result.andThen]
  exact hK _ _ (h v' w' h2 h3 h4)
theorem wpList_append_rowP {w : World} {ops : Array Oper} {rest : List Oper} {o : Oper} {a : Act} {Q : Exit → Act → World → Prop} (hgd : o.guard = none) (p q : Operand)
    (ho : o.op = .call { callee := .builtin .append, args := #[p, q], argTypes := #[22, 22] })
    (base : Nat) (v : Value) (n : Nat) (xs : List Int) (hp : a.eval p = v) (hown : w.ownsRow base 5 1 v n (xs.map (Value.int .u8)))
    (v2 : Value) (ys : List Int) (hq : a.eval q = v2) (hrow : Row w .u8 v2 ys) (h63 : n + ys.length ≤ 140737488355328) (hbase : base ≤ w.heap.size)
    (h : ∀ v' w', w'.ownsRow base 5 1 v' (n + ys.length) ((xs ++ ys).map (Value.int .u8)) → w.grownBy w' v.ownBlock → (v'.ownBlock = v.ownBlock ∨ v'.ownBlock = some w.heap.size) → wpList Try.prog ops Q rest (a.put o.dst v') w') :
    wpList Try.prog ops Q (o :: rest) a w := by
  obtain ⟨v', w', hr, h2, h3⟩ := run_append_row o.type base v n xs hown v2 ys hrow h63 hbase
  have h4 : v'.ownBlock = v.ownBlock ∨ v'.ownBlock = some w.heap.size := by
    obtain ⟨i0, hi, hz0, hz1, hz2⟩ := info_parts infoBy
    by_cases h0 : 0 < ys.length
    · obtain ⟨b, off, cap, rfl, hb, hc⟩ := hrow.at h0
      refine append_place (P := Try.prog) w base 22 o.type 5 i0 (.int .u8 0) 1 1 Try.underlying22 hi hz0 hz1 hz2 rfl (by decide) v n (xs.map (Value.int .u8)) hown ⟨b, off, none⟩ ys.length cap (ys.map (Value.int .u8)) (by simp) (fun j u hj => ?_) (fun u hu => ?_) (by unfold maxLen; omega) (by omega) h0 v' w' hr
      · have hj' : j < ys.length := by
          have := (List.getElem?_eq_some_iff.1 hj).1
          rwa [List.length_map] at this
        rw [Go.WideShapes.add_plain, hc j hj']
        rw [List.getElem?_map, List.getElem?_eq_getElem hj'] at hj
        simp only [Option.map_some, Option.some.injEq] at hj
        rw [← hj]
        simp [List.getD, hj']
      · obtain ⟨z, _, rfl⟩ := List.mem_map.1 hu
        rfl
    · have hn : ys = [] := List.eq_nil_of_length_eq_zero (by omega)
      subst hn
      obtain ⟨ao, cap, rfl⟩ := hrow.form
      obtain ⟨i0, hi, hz0, hz1, hz2⟩ := info_parts infoBy
      rw [show ([] : List Int).length = 0 from rfl, run_append_owned_zero (P := Try.prog) (w := w) base 22 o.type 5 i0 1 Try.underlying22 hi v n (xs.map (Value.int .u8)) ao cap hown] at hr
      cases hr
      exact Or.inl rfl
  refine wpList_plain hgd fun K hK => ?_
  unfold Oper.wp
  simp [execOp, ho, resolve, invoke, builtin, hp, hq, hr, Result.andThen]
  exact hK _ _ (h v' w' h2 h3 h4)
end Go.Proofs.Ythjakbpcpfmbjaa

namespace Go.Proofs.Ythjakbpcpfmbjaa
open Go.RowKit
set_option linter.unusedVariables false
set_option linter.unusedSimpArgs false

/-- Amid the frames: the credit of the stream, of the connection behind k of them. -/
def stK (fr : List (Int × Int × Int)) (s : Int) (k : Nat) : Int := (fr.take k).foldl (fun s f => if f.1 = 17 then f.2.2 else s) s
def cnK (fr : List (Int × Int × Int)) (s : Int) (k : Nat) : Int := (fr.take k).foldl (fun s f => if f.1 = 17 then s else f.2.1) s
theorem take_snocK (fr : List (Int × Int × Int)) (k : Nat) (hk : k < fr.length) : fr.take (k + 1) = fr.take k ++ [fr.getD k default] := by
  rw [List.take_add_one]
  simp [List.getD, hk]
theorem stK_succ (fr : List (Int × Int × Int)) (s : Int) (k : Nat) (hk : k < fr.length) : stK fr s (k + 1) = if (fr.getD k default).1 = 17 then (fr.getD k default).2.2 else stK fr s k := by
  unfold stK
  rw [take_snocK fr k hk, List.foldl_append]
  rfl
theorem cnK_succ (fr : List (Int × Int × Int)) (s : Int) (k : Nat) (hk : k < fr.length) : cnK fr s (k + 1) = if (fr.getD k default).1 = 17 then cnK fr s k else (fr.getD k default).2.1 := by
  unfold cnK
  rw [take_snocK fr k hk, List.foldl_append]
  rfl
theorem opsF_succ (fr : List (Int × Int × Int)) (k : Nat) (hk : k < fr.length) : opsF (fr.take (k + 1)) = opsF (fr.take k) ++ [if (fr.getD k default).1 = 17 then ⟨7, 0, (fr.getD k default).2.2, false⟩ else ⟨6, 0, (fr.getD k default).2.1, false⟩] := by
  rw [take_snocK fr k hk]
  simp [opsF]
theorem frB_amid (C S stream conn rd : Int) (hS : stream ≤ tdV S rd stream) (hC : conn ≤ tdV C rd conn) (k : Nat) (hk : k < (frB C S stream conn rd).length) :
    ((frB C S stream conn rd).getD k default = (17, 0, tdV S rd stream) ∧ stK (frB C S stream conn rd) stream k < tdV S rd stream) ∨ ((frB C S stream conn rd).getD k default = (16, tdV C rd conn, 0) ∧ cnK (frB C S stream conn rd) conn k < tdV C rd conn) := by
  unfold frB at hk ⊢
  by_cases p : tdV S rd stream = stream
  · rw [if_pos p] at hk ⊢
    by_cases q : tdV C rd conn = conn
    · rw [if_pos q] at hk; simp at hk
    · rw [if_neg q] at hk ⊢
      obtain rfl : k = 0 := by simpa using hk
      exact Or.inr ⟨rfl, by show conn < _; omega⟩
  · rw [if_neg p] at hk ⊢
    by_cases q : tdV C rd conn = conn
    · rw [if_pos q] at hk ⊢
      obtain rfl : k = 0 := by simpa using hk
      exact Or.inl ⟨rfl, by show stream < _; omega⟩
    · rw [if_neg q] at hk ⊢
      have : k = 0 ∨ k = 1 := by simp at hk; omega
      rcases this with rfl | rfl
      · exact Or.inl ⟨rfl, by show stream < _; omega⟩
      · exact Or.inr ⟨rfl, by show conn < _; omega⟩
theorem frB_end (C S stream conn rd : Int) : stK (frB C S stream conn rd) stream (frB C S stream conn rd).length = tdV S rd stream ∧ cnK (frB C S stream conn rd) conn (frB C S stream conn rd).length = tdV C rd conn := by
  unfold stK cnK
  rw [List.take_length]
  unfold frB
  by_cases p : tdV S rd stream = stream <;> by_cases q : tdV C rd conn = conn
  · rw [if_pos p, if_pos q]; exact ⟨p.symm, q.symm⟩
  · rw [if_pos p, if_neg q]; exact ⟨p.symm, rfl⟩
  · rw [if_neg p, if_pos q]; exact ⟨rfl, q.symm⟩
  · rw [if_neg p, if_neg q]; exact ⟨rfl, rfl⟩
theorem frB_len (C S stream conn rd : Int) : (frB C S stream conn rd).length ≤ 2 := by unfold frB; split <;> split <;> simp
/-- What FlowRun answers of a valid setup. -/
theorem flY_ok (F : FS) (R : List SFlowOp) (hF : fsOK F = true) (hl : R.length ≤ 400) : flC F R = 0 ∧ (flY F R).length = R.length ∧ ∀ i, i < R.length → (flY F R).getD i default = fobsAt F R i := by
  have hn : ¬ (400 < R.length ∨ fsOK F = false) := by rw [hF]; simp; omega
  refine ⟨?_, ?_, fun i hi => ?_⟩
  · unfold flC; rw [if_neg (by omega), if_neg (by rw [hF]; simp)]
  · unfold flY; rw [if_neg hn]; simp
  · unfold flY; rw [if_neg hn]; simp [List.getD, hi]
/-- A literal of two structs. -/
theorem lit_flat2 (w : World) (a b : SFlowOp) (T : TypeId) : GRow 4 (w.alloc (.cells (a.c ++ b.c).toArray T)) (.slice (some ⟨w.heap.size, 0, none⟩) 2 2) [a.c, b.c] := by
  refine Or.inr ⟨w.heap.size, 0, 2, rfl, by simp, fun j hj f hf => ?_⟩
  have k := heap_alloc_new w (.cells (a.c ++ b.c).toArray T)
  have hj2 : j = 0 ∨ j = 1 := by simp at hj; omega
  have hf2 : f = 0 ∨ f = 1 ∨ f = 2 ∨ f = 3 := by omega
  rw [Nat.zero_add, bk_cell k]
  rcases hj2 with rfl | rfl <;> rcases hf2 with rfl | rfl | rfl | rfl <;> rfl
/-- The two lists of operations in memory. -/
structure CrM (Wb W : World) (ov tv : Value) (one two : List SFlowOp) : Prop where
  o : GOwns 32 4 W Wb.heap.size ov (SFlowOp.L one)
  t : GOwns 32 4 W Wb.heap.size tv (SFlowOp.L two)
  ne : ∀ k, ov.ownBlock = some k → tv.ownBlock ≠ some k
  bw : Below Wb.heap.size Wb W
section
variable {Wb W : World} {ov tv : Value} {one two : List SFlowOp}
theorem CrM.below {W' : World} (h : CrM Wb W ov tv one two) (b : Below W.heap.size W W') : CrM Wb W' ov tv one two := ⟨h.o.below b, h.t.below b, h.ne, h.bw.trans (b.mono h.bw.size)⟩
theorem CrM.alloc (h : CrM Wb W ov tv one two) (ob : Obj) : CrM Wb (W.alloc ob) ov tv one two := h.below ((Below.refl _ _).alloc (Nat.le_refl _) _)
theorem CrM.grow {U w6 : World} {a b v6 : Value} {X : List (List Value)} {A B : List SFlowOp} (ho : GOwns 32 4 U Wb.heap.size a (SFlowOp.L A)) (ht : GOwns 32 4 U Wb.heap.size b (SFlowOp.L B)) (ne : ∀ k, a.ownBlock = some k → b.ownBlock ≠ some k) (bw : Below Wb.heap.size Wb U)
    (g6 : U.grownBy w6 a.ownBlock) (l6 : v6.ownBlock = a.ownBlock ∨ v6.ownBlock = some U.heap.size) :
    GOwns 32 4 w6 Wb.heap.size b (SFlowOp.L B) ∧ (∀ k, v6.ownBlock = some k → b.ownBlock ≠ some k) ∧ Below Wb.heap.size Wb w6 := by
  refine ⟨?_, ?_, ?_⟩
  · cases e : a.ownBlock with
    | none => rw [e] at g6; exact ht.below ⟨g6.os, g6.tape, g6.output, g6.size, fun i hi => g6.block i hi (by simp)⟩
    | some k => rw [e] at g6; exact ht.blkF g6 (ne k e)
  · intro k hk
    rcases l6 with l6 | l6
    · exact ne k (l6.symm.trans hk)
    · intro hb
      have := (ht.ltF k hb).2
      have : k = U.heap.size := Option.some.inj (hk.symm.trans l6)
      omega
  · exact bw.grown g6 bw.size (fun q hq => by have := (ho.ltF q hq).1; omega)
theorem CrM.push1 {w6 : World} {v6 : Value} {ob : Obj} (h : CrM Wb W ov tv one two) (x : SFlowOp) (o6 : GOwns 32 4 w6 Wb.heap.size v6 (SFlowOp.L one ++ [x.c])) (g6 : (W.alloc ob).grownBy w6 ov.ownBlock) (l6 : v6.ownBlock = ov.ownBlock ∨ v6.ownBlock = some (W.alloc ob).heap.size) :
    CrM Wb w6 v6 tv (one ++ [x]) two := by
  have h1 := h.alloc ob
  obtain ⟨a, b, c⟩ := CrM.grow (X := []) h1.o h1.t h1.ne h1.bw g6 l6
  exact ⟨by rw [show SFlowOp.L (one ++ [x]) = SFlowOp.L one ++ [x.c] by simp]; exact o6, a, b, c⟩
theorem CrM.push2 {w6 : World} {v6 : Value} {ob : Obj} (h : CrM Wb W ov tv one two) (x y : SFlowOp) (o6 : GOwns 32 4 w6 Wb.heap.size v6 (SFlowOp.L two ++ [x.c, y.c])) (g6 : (W.alloc ob).grownBy w6 tv.ownBlock) (l6 : v6.ownBlock = tv.ownBlock ∨ v6.ownBlock = some (W.alloc ob).heap.size) :
    CrM Wb w6 ov v6 one (two ++ [x, y]) := by
  have h1 := h.alloc ob
  obtain ⟨a, b, c⟩ := CrM.grow (X := []) h1.t h1.o (fun k hk e => h1.ne k e hk) h1.bw g6 l6
  exact ⟨a, by rw [show SFlowOp.L (two ++ [x, y]) = SFlowOp.L two ++ [x.c, y.c] by simp]; exact o6, fun k hk e => b k e hk, c⟩
end
end Go.Proofs.Ythjakbpcpfmbjaa

namespace Go.Proofs.Ythjakbpcpfmbjaa
open Go.RowKit
set_option linter.unusedVariables false
set_option linter.unusedSimpArgs false

theorem ids0 (R : List SFlowOp) (h : ∀ o ∈ R, o.f1 = 0) (j : Nat) : (Lit.int .i64 (R.getD j default).f1).wf = true := by
  by_cases hj : j < R.length
  · rw [h (R.getD j default) (by simp [List.getD, hj])]; decide
  · rw [show R.getD j default = default by simp [List.getD, List.getElem?_eq_none (show R.length ≤ j by omega)]]; decide
theorem frC_at8 (L : List (Int × Int × Int)) (j : Nat) (h : j < L.length) : (L.map frC).getD j [] = frC (L.getD j default) := map_at _ L default j h
theorem GRow.keepK {K : Nat} {w w' : World} {v : Value} {L : List (List Value)} (h : GRow K w v L) {r : Option Nat} (g : w.grownBy w' r) (hne : ∀ b, r = some b → v.ownBlock ≠ some b) : GRow K w' v L := by
  rcases h with h | ⟨b, off, cap, rfl, hb, hc⟩
  · exact Or.inl h
  · refine Or.inr ⟨b, off, cap, rfl, Nat.lt_of_lt_of_le hb g.size, fun j hj f hf => ?_⟩
    rw [← hc j hj f hf]
    have e : w'.heap[b]? = w.heap[b]? := g.block b hb (fun e => hne b e.symm rfl)
    simp [World.cell?, e]
theorem grow_keep {w w6 : World} {v ov v6 : Value} {L : List (List Value)} {base : Nat} {X : List (List Value)} {o1 o2 : Obj} (hn : 0 < L.length) (h : GRow 8 w v L) (ne : ∀ b, ov.ownBlock = some b → v.ownBlock ≠ some b) (ho : GOwns 32 4 w base ov X)
    (g6 : ((w.alloc o1).alloc o2).grownBy w6 ov.ownBlock) (l6 : v6.ownBlock = ov.ownBlock ∨ v6.ownBlock = some ((w.alloc o1).alloc o2).heap.size) : GRow 8 w6 v L ∧ ∀ b, v6.ownBlock = some b → v.ownBlock ≠ some b := by
  have h2 : GRow 8 ((w.alloc o1).alloc o2) v L := h.below (((Below.refl _ _).alloc (Nat.le_refl _) _).alloc (by simp) _)
  refine ⟨h2.keepK g6 ne, fun b hb => ?_⟩
  rcases l6 with l6 | l6
  · exact ne b (l6.symm.trans hb)
  · intro hv
    have e : b = ((w.alloc o1).alloc o2).heap.size := Option.some.inj (hb.symm.trans l6)
    obtain ⟨b', off, cap, rfl, hb', _⟩ := h2.at' hn
    have : b' = b := Option.some.inj hv
    omega
set_option maxRecDepth 20000 in
set_option maxHeartbeats 40000000 in
theorem fnCredits_walk (v0 : Value) (x0 : List Int) (l0 : x0.length ≤ maxLen) (wf0 : ∀ x ∈ x0, (Lit.int .u8 x).wf = true)
    (w : World) (row0 : Row w .u8 v0 x0) :
    Calls Try.prog 3 #[v0] w fun e w' => e = .returned (.bool true) ∧ Below w.heap.size w w' := by
  have hB := bytes_of_wf wf0
  have hl0 : x0.length ≤ 9223372036854775807 := Nat.le_trans l0 (by decide)
  by_cases hb0 : 1048576 < x0.length
  · obtain ⟨a0, c0, rfl⟩ := row0.form
    have hb0' : (1048576 : Int) < (x0.length : Int) := by omega
    generalize x0.length = m0 at *
    clear row0 hB wf0
    go_enter Try.func3, Try.ntmps3
    go_wp2
    go_ret
    exact ⟨rfl, Below.refl _ _⟩
  have CD := drawFR v0 x0 w row0 hB (by omega)
  obtain ⟨F, eF⟩ : ∃ F, F = dfF x0 := ⟨_, rfl⟩
  rw [← eF] at CD
  clear eF
  obtain ⟨sv, C, S, tw, ow, pc, ps, pt, po⟩ := F
  unfold fsV at CD
  dsimp only at CD
  obtain ⟨Z, eZ⟩ : ∃ Z, Z = flC (fbS C S) [] := ⟨_, rfl⟩
  have CZs : ∀ (W : World) (v : Value), GRow 4 W v (SFlowOp.L []) → Calls Try.prog 6 #[.agg #[.bool true, .int .i64 C, .int .i64 S, .int .i64 1, .int .i64 0, .int .i64 10, .int .i64 10, .int .i64 0, .int .i64 0], v] W fun e w' => ∃ r, e = .returned (.tuple #[r, .int .i64 Z]) ∧ Below W.heap.size W w' := fun W v hr => by
    refine (specFL (fbS C S) v [] W hr (by simp)).mono ?_
    rintro e w' ⟨r, rfl, _, b⟩
    exact ⟨r, by rw [eZ], b⟩
  have CZi : ∀ (W : World) (v : Value), GRow 4 W v (SFlowOp.L []) → Calls Try.prog 7 #[.agg #[.bool true, .int .i64 C, .int .i64 S, .int .i64 1, .int .i64 0, .int .i64 10, .int .i64 10, .int .i64 0, .int .i64 0], v] W fun e w' => ∃ r, e = .returned (.tuple #[r, .int .i64 Z]) ∧ Below W.heap.size W w' := fun W v hr => by
    refine (implFL (fbS C S) v [] W hr (fun j => by simp; decide) (by simp)).mono ?_
    rintro e w' ⟨r, rfl, _, b⟩
    exact ⟨r, by rw [eZ], b⟩
  have hZ : (fsOK (fbS C S) = true ∧ Z = 0) ∨ (fsOK (fbS C S) = false ∧ Z = 1) := by
    rw [eZ]
    cases h : fsOK (fbS C S)
    · exact Or.inr ⟨rfl, by unfold flC; rw [if_neg (by simp), if_pos h]⟩
    · exact Or.inl ⟨rfl, by unfold flC; rw [if_neg (by simp), if_neg (by rw [h]; simp)]⟩
  have CS : fsOK (fbS C S) = true → ∀ (W : World) (v : Value) (R : List SFlowOp), GRow 4 W v (SFlowOp.L R) → R.length ≤ 400 → Calls Try.prog 6 #[.agg #[.bool false, .int .i64 10, .int .i64 10, .int .i64 0, .int .i64 0, .int .i64 C, .int .i64 S, .int .i64 1, .int .i64 0], v] W fun e w' => ∃ r, e = .returned (.tuple #[r, .int .i64 0]) ∧ NOwns w' W.heap.size r (flY (faS C S) R) ∧ Below W.heap.size W w' := fun hv W v R hr hl => by
    have := specFL (faS C S) v R W hr (by omega)
    rw [(flY_ok (faS C S) R (cred_validA C S hv) hl).1] at this
    exact this
  have CI : fsOK (fbS C S) = true → ∀ (W : World) (v : Value) (R : List SFlowOp), GRow 4 W v (SFlowOp.L R) → R.length ≤ 400 → (∀ o ∈ R, o.f1 = 0) → Calls Try.prog 7 #[.agg #[.bool false, .int .i64 10, .int .i64 10, .int .i64 0, .int .i64 0, .int .i64 C, .int .i64 S, .int .i64 1, .int .i64 0], v] W fun e w' => ∃ r, e = .returned (.tuple #[r, .int .i64 0]) ∧ NOwns w' W.heap.size r (flY (faS C S) R) ∧ Below W.heap.size W w' := fun hv W v R hr hl h0 => by
    have := implFL (faS C S) v R W hr (ids0 R h0) (by omega)
    rw [(flY_ok (faS C S) R (cred_validA C S hv) hl).1] at this
    exact this
  have CB : fsOK (fbS C S) = true → ∀ (W : World) (v : Value) (R : List SFlowOp), GRow 4 W v (SFlowOp.L R) → R.length ≤ 400 → (∀ o ∈ R, o.f1 = 0) → Calls Try.prog 7 #[.agg #[.bool true, .int .i64 C, .int .i64 S, .int .i64 1, .int .i64 0, .int .i64 10, .int .i64 10, .int .i64 0, .int .i64 0], v] W fun e w' => ∃ r, e = .returned (.tuple #[r, .int .i64 0]) ∧ NOwns w' W.heap.size r (flY (fbS C S) R) ∧ Below W.heap.size W w' := fun hv W v R hr hl h0 => by
    have := implFL (fbS C S) v R W hr (ids0 R h0) (by omega)
    rw [(flY_ok (fbS C S) R hv hl).1] at this
    exact this
  have hnb : ¬ (1048576 : Int) < (x0.length : Int) := by omega
  obtain ⟨a0, c0, ev⟩ := row0.form
  subst ev
  have HC : Hid _ := And.intro CD (And.intro CZs (And.intro CZi (And.intro CS (And.intro CI CB))))
  clear CD CZs CZi CS CI CB eZ row0 hB wf0 hb0 l0
  have nZ : (Z == Z) = true := by simp
  generalize x0.length = m0 at *
  go_enter Try.func3, Try.ntmps3
  go_wp2_with fail
  go_at_call 5
  refine HC.out.1.mono ?_
  rintro e w1 ⟨r1, rfl, o1, b1⟩
  obtain ⟨ra, rc, er⟩ := o1.row.form
  have H1 : Hid _ := b1
  generalize (SFlowOp.L (dfr x0)).length = rn at er
  subst er
  clear o1 b1
  go_upto_region 6 with fail
  obtain ⟨b3, eb3⟩ : ∃ b, b = w1.heap.size := ⟨_, rfl⟩
  obtain ⟨b5, eb5⟩ : ∃ b, b = w1.heap.size + 1 := ⟨_, rfl⟩
  obtain ⟨b6, eb6⟩ : ∃ b, b = w1.heap.size + 1 + 1 := ⟨_, rfl⟩
  obtain ⟨u1, eu1⟩ : ∃ u, u = ((w1.alloc (.cells #[.bool sv, .int .i64 C, .int .i64 S, .int .i64 tw, .int .i64 ow, .int .i64 pc, .int .i64 ps, .int .i64 pt, .int .i64 po] 24)).alloc (.cells #[.bool false, .int .i64 10, .int .i64 10, .int .i64 0, .int .i64 0, .int .i64 C, .int .i64 S, .int .i64 1, .int .i64 0] 24)).alloc (.cells #[.bool true, .int .i64 C, .int .i64 S, .int .i64 1, .int .i64 0, .int .i64 10, .int .i64 10, .int .i64 0, .int .i64 0] 24) := ⟨_, rfl⟩
  have k3 := bk_new3 w1 (.cells #[.bool sv, .int .i64 C, .int .i64 S, .int .i64 tw, .int .i64 ow, .int .i64 pc, .int .i64 ps, .int .i64 pt, .int .i64 po] 24) (.cells #[.bool false, .int .i64 10, .int .i64 10, .int .i64 0, .int .i64 0, .int .i64 C, .int .i64 S, .int .i64 1, .int .i64 0] 24) (.cells #[.bool true, .int .i64 C, .int .i64 S, .int .i64 1, .int .i64 0, .int .i64 10, .int .i64 10, .int .i64 0, .int .i64 0] 24)
  have B1 : Below w1.heap.size w1 u1 := by rw [eu1]; exact (((Below.refl _ _).alloc (Nat.le_refl _) _).alloc (by simp) _).alloc (by simp; omega) _
  rw [← eu1] at k3 ⊢
  rw [show w1.heap.size + 2 = b6 from eb6.symm, ← eb5, ← eb3] at k3
  rw [← eb6, ← eb5, ← eb3]
  have H1 : Hid _ := And.intro (H1.out.trans (B1.mono H1.out.size)) k3
  clear k3 B1 eu1 eb3 eb5 eb6
  go_upto_region 7 with (first
    | (refine wpList_load_row rfl 24 _ rfl b6 rfl 24 #[.bool true, .int .i64 C, .int .i64 S, .int .i64 1, .int .i64 0, .int .i64 10, .int .i64 10, .int .i64 0, .int .i64 0] (0, 0) _ H1.out.2.2.2 Try.underlying24 rfl infoFSz ?_)
    | (go_at_call 6; refine (HC.out.2.1 _ _ (GOwns.lit0 32 4 u1 u1.heap.size (Nat.le_refl _)).row).mono ?_; rintro e w2 ⟨r2, rfl, b2⟩; have H2 : Hid (Below u1.heap.size u1 w2) := ((Below.refl u1.heap.size u1).alloc (Nat.le_refl _) _).trans (b2.mono (by simp)); clear b2))
  have L1 : b3 < u1.heap.size ∧ b5 < u1.heap.size ∧ b6 < u1.heap.size := ⟨(Array.getElem?_eq_some_iff.1 H1.out.2.1).1, (Array.getElem?_eq_some_iff.1 H1.out.2.2.1).1, (Array.getElem?_eq_some_iff.1 H1.out.2.2.2).1⟩
  have H2 : Hid _ := And.intro (H1.out.1.trans (H2.out.mono H1.out.1.size)) (And.intro ((H2.out.block _ L1.1).trans H1.out.2.1) (And.intro ((H2.out.block _ L1.2.1).trans H1.out.2.2.1) ((H2.out.block _ L1.2.2).trans H1.out.2.2.2)))
  clear H1 L1
  rcases hZ with ⟨hv, rfl⟩ | ⟨hv, rfl⟩
  case inr =>
    as_aux_lemma =>
    go_upto_region 8 with fail
    go_upto_region 9 with (first
      | (refine wpList_load_row rfl 24 _ rfl b6 rfl 24 #[.bool true, .int .i64 C, .int .i64 S, .int .i64 1, .int .i64 0, .int .i64 10, .int .i64 10, .int .i64 0, .int .i64 0] (0, 0) _ H2.out.2.2.2 Try.underlying24 rfl infoFSz ?_)
      | (go_at_call 7; refine (HC.out.2.2.1 _ _ (GOwns.lit0 32 4 w2 w2.heap.size (Nat.le_refl _)).row).mono ?_; rintro e w3 ⟨r3, rfl, b3'⟩; have H3 : Hid (Below w2.heap.size w2 w3) := ((Below.refl w2.heap.size w2).alloc (Nat.le_refl _) _).trans (b3'.mono (by simp)); clear b3'))
    go_wp2_with fail
    go_ret
    exact ⟨rfl, H2.out.1.trans (H3.out.mono H2.out.1.size)⟩
  have HV : Hid _ := And.intro hv True.intro
  have z1 : w2.cell? ⟨b3, 1, none⟩ = some (.int .i64 C) := (bk_cell H2.out.2.1 1).trans rfl
  have z2 : w2.cell? ⟨b3, 2, none⟩ = some (.int .i64 S) := (bk_cell H2.out.2.1 2).trans rfl
  have hb3 : b3 < w2.heap.size := (Array.getElem?_eq_some_iff.1 H2.out.2.1).1
  clear hv
  go_upto_region 15 with fail
  obtain ⟨u2, eu2⟩ : ∃ u, u = (w2.alloc (.cells #[.int .i64 1, .int .i64 0, .int .i64 0, .bool false] 32)).alloc (.cells #[] 32) := ⟨_, rfl⟩
  have M0 : CrM w2 u2 (.slice (some ⟨w2.heap.size, 0, none⟩) 1 1) (.slice (some ⟨w2.heap.size + 1, 0, none⟩) 0 0) [⟨1, 0, 0, false⟩] [] := by
    have bA : Below (w2.alloc (.cells #[.int .i64 1, .int .i64 0, .int .i64 0, .bool false] 32)).heap.size (w2.alloc (.cells #[.int .i64 1, .int .i64 0, .int .i64 0, .bool false] 32)) u2 := by rw [eu2]; exact (Below.refl _ _).alloc (Nat.le_refl _) _
    have oA : GOwns 32 4 (w2.alloc (.cells #[.int .i64 1, .int .i64 0, .int .i64 0, .bool false] 32)) w2.heap.size (.slice (some ⟨w2.heap.size, 0, none⟩) 1 1) (SFlowOp.L [⟨1, 0, 0, false⟩]) :=
      GOwns.ofFlat (flatOps _) (World.ownsRow_lit w2 #[.int .i64 1, .int .i64 0, .int .i64 0, .bool false] 1 (Nat.le_refl _) (by decide) rfl)
    have oB : GOwns 32 4 u2 w2.heap.size (.slice (some ⟨w2.heap.size + 1, 0, none⟩) 0 0) (SFlowOp.L []) := by
      have := GOwns.lit0 32 4 (w2.alloc (.cells #[.int .i64 1, .int .i64 0, .int .i64 0, .bool false] 32)) w2.heap.size (by simp)
      rw [← eu2] at this
      simpa using this
    exact ⟨oA.below bA, oB, fun k hk e => by simp [Value.ownBlock] at hk e; omega, by rw [eu2]; exact ((Below.refl _ _).alloc (Nat.le_refl _) _).alloc (by simp) _⟩
  rw [← eu2]
  have HL : Hid _ := And.intro M0 (CrI.zero HV.out.1)
  clear M0 eu2 z1 z2
  go_wp2_with fail
  go_loopg [11, 12, 13, 14, 15, 16, 17, 18, 19, 20, 21, 22, 24] 12 (fun q ov tv sentv strv conv iv xv ev q19 q20 nv yv gv wr => ∃ (i : Nat) (one two : List SFlowOp) (sent stream conn : Int), i ≤ 12 ∧ q = 12 - i ∧ sentv = .int .i64 sent ∧ strv = .int .i64 stream ∧ conv = .int .i64 conn ∧ iv = .int .i64 (i : Int) ∧ CrI C S i one two sent stream conn ∧ CrM w2 wr ov tv one two)
  case atStart => exact ⟨0, _, _, _, _, _, by omega, by omega, rfl, rfl, rfl, rfl, HL.out.2, HL.out.1⟩
  case round =>
    obtain ⟨i, one, two, sent, stream, conn, hi, hq, rfl, rfl, rfl, rfl, hI, hM⟩ := hrel
    have hsz : w2.heap.size ≤ wr.heap.size := hM.bw.size
    by_cases hlt : i < 12
    · have hs0 := hI.s0
      have hs1 := hI.s1
      obtain ⟨n, en⟩ : ∃ n, n = cntA sent stream conn := ⟨_, rfl⟩
      have hc := hI.send
      rw [← en] at hc
      obtain ⟨hc0, hc1, hc2, hc3⟩ := hc
      obtain ⟨oa, oc, eo⟩ := hM.o.row.form
      obtain ⟨ta, tc, et⟩ := hM.t.row.form
      rw [List.length_map] at eo et
      obtain ⟨m1, em1⟩ : ∃ m, m = one.length := ⟨_, rfl⟩
      obtain ⟨m2, em2⟩ : ∃ m, m = two.length := ⟨_, rfl⟩
      have hla := hI.la
      have hlb := hI.lb
      rw [← em1] at eo hla hc0
      rw [← em2] at et hlb
      subst eo et
      have HR : Hid _ := And.intro hI (And.intro hM (And.intro hq (And.intro em1 (And.intro em2 (And.intro en hc0)))))
      have hbw : ∀ (W : World), Below w2.heap.size w2 W → W.heap[b5]? = some (.cells #[.bool false, .int .i64 10, .int .i64 10, .int .i64 0, .int .i64 0, .int .i64 C, .int .i64 S, .int .i64 1, .int .i64 0] 24 (0, 0)) ∧ W.heap[b6]? = some (.cells #[.bool true, .int .i64 C, .int .i64 S, .int .i64 1, .int .i64 0, .int .i64 10, .int .i64 10, .int .i64 0, .int .i64 0] 24 (0, 0)) := fun W hW => ⟨(hW.block _ (Array.getElem?_eq_some_iff.1 H2.out.2.2.1).1).trans H2.out.2.2.1, (hW.block _ (Array.getElem?_eq_some_iff.1 H2.out.2.2.2).1).trans H2.out.2.2.2⟩
      have HW : Hid _ := And.intro hbw True.intro
      have HB : Hid _ := And.intro (And.intro hs0 hs1) (And.intro hla hlb)
      clear hI hM hq em1 em2 en hc0 hbw hs0 hs1 hla hlb
      go_upto_region 19 with (at_builtin; refine wpList_append_flatP rfl (.tmp 71) (.tmp 73) 25 32 Try.underlying25 _ 4 32 infoFlowOp rfl (by decide) (by decide) rfl w2.heap.size (.slice oa m1 oc) (SFlowOp.L one) (flatOps _) rfl (HR.out.2.1.o.below ((Below.refl _ _).alloc (Nat.le_refl _) _)) _ [[.int .i64 2, .int .i64 0, .int .i64 100000, .bool false]] (flatOps [⟨2, 0, 100000, false⟩]) rfl (lit_flat _ [.int .i64 2, .int .i64 0, .int .i64 100000, .bool false] _) (by rw [List.length_map, ← HR.out.2.2.2.1]; have := HB.out.2.1; simp; omega) (by simp; omega) ?_; intro v6 w6 o6 g6 l6; have H6 : Hid _ := And.intro o6 (And.intro g6 l6); clear o6 g6 l6)
      have M1 := HR.out.2.1.push1 ⟨2, 0, 100000, false⟩ H6.out.1 H6.out.2.1 H6.out.2.2
      clear H6
      obtain ⟨one1, eone⟩ : ∃ l, l = one ++ [(⟨2, 0, 100000, false⟩ : SFlowOp)] := ⟨_, rfl⟩
      rw [← eone] at M1
      obtain ⟨oa1, oc1, eo⟩ := M1.o.row.form
      have hl1 : one1.length = m1 + 1 := by rw [eone, HR.out.2.2.2.1]; simp
      rw [List.length_map, hl1] at eo
      subst eo
      have hid1 : ∀ o ∈ one1, o.f1 = 0 := by
        rw [eone]
        intro o ho
        rcases List.mem_append.1 ho with z | z
        · exact HR.out.1.ida o z
        · obtain rfl := List.mem_singleton.1 z; rfl
      have hf := flY_ok (faS C S) one1 (cred_validA C S HV.out.1) (by rw [hl1]; have := HB.out.2.1; omega)
      have hx : (flY (faS C S) one1).getD m1 default = ⟨0, 0, n, []⟩ := by
        rw [hf.2.2 m1 (by omega), eone]
        exact HR.out.2.2.2.2.2.2
      have H1 : Hid _ := And.intro M1 (And.intro hl1 (And.intro hid1 (And.intro hf.2.1 (And.intro hx eone))))
      clear M1 hl1 hid1 hf hx eone
      go_upto_region 20 with (first
        | (refine wpList_load_row rfl 24 _ rfl b5 rfl 24 #[.bool false, .int .i64 10, .int .i64 10, .int .i64 0, .int .i64 0, .int .i64 C, .int .i64 S, .int .i64 1, .int .i64 0] (0, 0) _ (HW.out.1 w6 H1.out.1.bw).1 Try.underlying24 rfl infoFSz ?_)
        | (go_at_call 7; refine (HC.out.2.2.2.2.1 HV.out.1 w6 _ one1 H1.out.1.o.row (by rw [H1.out.2.1]; have := HB.out.2.1; omega) H1.out.2.2.1).mono ?_; rintro e w7 ⟨r7, rfl, o7, b7⟩; have H7 : Hid (NOwns w7 w6.heap.size r7 (flY (faS C S) one1) ∧ Below w6.heap.size w6 w7) := And.intro o7 b7; clear o7 b7))
      have M2 : Hid _ := H1.out.1.below H7.out.2
      obtain ⟨xa, xc, ex⟩ := H7.out.1.row.form
      rw [H1.out.2.2.2.1, H1.out.2.1] at ex
      subst ex
      go_upto_region 21 with (first
        | (refine wpList_load_row rfl 24 _ rfl b5 rfl 24 #[.bool false, .int .i64 10, .int .i64 10, .int .i64 0, .int .i64 0, .int .i64 C, .int .i64 S, .int .i64 1, .int .i64 0] (0, 0) _ (HW.out.1 w7 M2.out.bw).1 Try.underlying24 rfl infoFSz ?_)
        | (go_at_call 6; refine (HC.out.2.2.2.1 HV.out.1 w7 _ one1 M2.out.o.row (by rw [H1.out.2.1]; have := HB.out.2.1; omega)).mono ?_; rintro e w8 ⟨r8, rfl, o8, b8⟩; have H8 : Hid (Below w7.heap.size w7 w8) := b8; clear o8 b8))
      have M3 := M2.out.below H8.out
      obtain ⟨xb, xo, xc', ex, hxb, Ux, cx, _⟩ := (H7.out.1.below H8.out).row.at' (by rw [H1.out.2.2.2.1, H1.out.2.1]; omega)
      injection ex with ex1 ex2 ex3
      subst ex1
      clear ex2 ex3
      have hcx := cx m1 (by rw [H1.out.2.2.2.1, H1.out.2.1]; omega)
      rw [H1.out.2.2.2.2.1] at hcx
      dsimp only [FO.c] at hcx
      have cx0 : w8.cell? ⟨xb, xo + m1 * 4, none⟩ = some (.int .i64 0) := hcx 0 (by omega)
      have cx2 : w8.cell? ⟨xb, xo + m1 * 4 + 2, none⟩ = some (.int .i64 n) := hcx 2 (by omega)
      have hm1 : m1 ≤ 40 := by have := HB.out.2.1; omega
      have nm1 : (((m1 + 1 : Nat) : Int) != ((m1 + 1 : Nat) : Int)) = false := by simp
      have M3h : Hid _ := M3
      clear M3 M2 H7 H8 hcx cx
      have d1 : decide (n < 1) = false := by rw [decide_eq_false_iff_not]; omega
      have d2 : decide (stream < sent + n) = false := by rw [decide_eq_false_iff_not]; omega
      have d3 : decide (conn < sent + n) = false := by rw [decide_eq_false_iff_not]; omega
      have hbn : 0 ≤ sent ∧ sent + n ≤ 1000000 := by have := HB.out.1; omega
      go_upto_region 29 with fail
      go_upto_region 30 with (at_builtin; refine wpList_append_flatP rfl (.tmp 139) (.tmp 144) 25 32 Try.underlying25 _ 4 32 infoFlowOp rfl (by decide) (by decide) rfl w2.heap.size (.slice ta m2 tc) (SFlowOp.L two) (flatOps _) rfl (M3h.out.t.below ((Below.refl _ _).alloc (Nat.le_refl _) _)) _ [[.int .i64 3, .int .i64 0, .int .i64 (sent + n), .bool false], [.int .i64 4, .int .i64 0, .int .i64 n, .bool false]] (flatOps [⟨3, 0, sent + n, false⟩, ⟨4, 0, n, false⟩]) rfl (lit_flat2 _ ⟨3, 0, sent + n, false⟩ ⟨4, 0, n, false⟩ _) (by rw [List.length_map, ← HR.out.2.2.2.2.1]; have := HB.out.2.2; simp; omega) (by have := M3h.out.bw.size; simp; omega) ?_; intro v9 w9 o9 g9 l9; have H9 : Hid _ := And.intro o9 (And.intro g9 l9); clear o9 g9 l9)
      have M4 := M3h.out.push2 ⟨3, 0, sent + n, false⟩ ⟨4, 0, n, false⟩ H9.out.1 H9.out.2.1 H9.out.2.2
      clear H9 M3h cx0 cx2 d1 d2 d3 nm1
      have hnx := HR.out.1.next HV.out.1 hlt n HR.out.2.2.2.2.2.1
      have hrd := HR.out.1.read HV.out.1 hlt n HR.out.2.2.2.2.2.1
      rw [← H1.out.2.2.2.2.2] at hnx
      obtain ⟨two1, etwo⟩ : ∃ l, l = two ++ [(⟨3, 0, sent + n, false⟩ : SFlowOp), ⟨4, 0, n, false⟩] := ⟨_, rfl⟩
      rw [← etwo] at M4 hnx hrd
      rw [← HR.out.2.2.2.2.1] at hrd
      obtain ⟨ta1, tc1, et⟩ := M4.t.row.form
      have hl2 : two1.length = m2 + 2 := by rw [etwo, HR.out.2.2.2.2.1]; simp
      rw [List.length_map, hl2] at et
      subst et
      have hf := flY_ok (fbS C S) two1 HV.out.1 (by rw [hl2]; have := HB.out.2.2; omega)
      obtain ⟨fr, efr⟩ : ∃ f, f = frB C S stream conn (sent + n) := ⟨_, rfl⟩
      rw [← efr] at hnx hrd
      have hy0 : (flY (fbS C S) two1).getD m2 default = ⟨0, 0, 0, []⟩ := (hf.2.2 m2 (by omega)).trans hrd.1
      have hy1 : (flY (fbS C S) two1).getD (m2 + 1) default = ⟨0, 0, 0, fr⟩ := (hf.2.2 (m2 + 1) (by omega)).trans hrd.2.1
      have hw := (cred_valid C S).1 HV.out.1
      have tS := tdV_bd (w := S) (r := sent + n) (t := stream) (by omega) hc2
      have tC := tdV_bd (w := C) (r := sent + n) (t := conn) (by omega) hc3
      have hfl := frB_len C S stream conn (sent + n)
      have ham := frB_amid C S stream conn (sent + n) tS.2.1 tC.2.1
      have hen := frB_end C S stream conn (sent + n)
      rw [← efr] at hfl ham hen
      obtain ⟨XS, eXS⟩ : ∃ x, x = tdV S (sent + n) stream := ⟨_, rfl⟩
      obtain ⟨XC, eXC⟩ : ∃ x, x = tdV C (sent + n) conn := ⟨_, rfl⟩
      rw [← eXS] at hnx ham hen
      rw [← eXC] at hnx ham hen
      have H4 : Hid _ := And.intro M4 (And.intro hl2 (And.intro hnx.idb (And.intro hf.2.1 (And.intro hy0 (And.intro hy1 (And.intro hnx (And.intro hfl (And.intro ham hen))))))))
      clear M4 hl2 hnx hrd hf hy0 hy1 hw tS tC hfl ham hen efr eXS eXC etwo
      go_upto_region 31 with (first
        | (refine wpList_load_row rfl 24 _ rfl b6 rfl 24 #[.bool true, .int .i64 C, .int .i64 S, .int .i64 1, .int .i64 0, .int .i64 10, .int .i64 10, .int .i64 0, .int .i64 0] (0, 0) _ (HW.out.1 w9 H4.out.1.bw).2 Try.underlying24 rfl infoFSz ?_)
        | (go_at_call 7; refine (HC.out.2.2.2.2.2 HV.out.1 w9 _ two1 H4.out.1.t.row (by rw [H4.out.2.1]; have := HB.out.2.2; omega) H4.out.2.2.1).mono ?_; rintro e wa ⟨ra', rfl, oa', ba⟩; have HA : Hid (NOwns wa w9.heap.size ra' (flY (fbS C S) two1) ∧ Below w9.heap.size w9 wa) := And.intro oa' ba; clear oa' ba))
      have M5 : Hid _ := H4.out.1.below HA.out.2
      obtain ⟨Uy, gy, ry, _⟩ := HA.out.1
      have hYl : (flY (fbS C S) two1).length = m2 + 2 := by rw [H4.out.2.2.2.1, H4.out.2.1]
      obtain ⟨yb, yo, yc, ey, hyb, cy⟩ := gy.row.at' (by rw [zl_length, hYl]; omega)
      rw [zl_length, hYl] at ey cy
      subst ey
      have hcy0 := cy m2 (by omega)
      have hcy1 := cy (m2 + 1) (by omega)
      have hry := ry (m2 + 1) (by rw [hYl]; omega)
      rw [zl_at FO.c _ Uy _ (by rw [hYl]; omega)] at hcy0 hcy1
      clear gy ry hYl
      rw [H4.out.2.2.2.2.1] at hcy0
      rw [H4.out.2.2.2.2.2.1] at hcy1 hry
      dsimp only [FO.c] at hcy0 hcy1
      dsimp only at hry
      obtain ⟨fa, fc, ef⟩ := hry.row.form
      obtain ⟨fn, efn⟩ : ∃ n, n = fr.length := ⟨_, rfl⟩
      rw [List.length_map, ← efn] at ef
      obtain ⟨uy, euy⟩ : ∃ u, u = Uy (m2 + 1) := ⟨_, rfl⟩
      rw [← euy] at hcy1 hry ef
      subst ef
      clear euy
      have y0 : wa.cell? ⟨yb, yo + m2 * 4, none⟩ = some (.int .i64 0) := hcy0 0 (by omega)
      have y1 : wa.cell? ⟨yb, yo + (m2 + 1) * 4, none⟩ = some (.int .i64 0) := hcy1 0 (by omega)
      have y3 : wa.cell? ⟨yb, yo + (m2 + 1) * 4 + 3, none⟩ = some (.slice fa fn fc) := hcy1 3 (by omega)
      have hm2 : m2 ≤ 40 := by have := HB.out.2.2; omega
      have nm2 : (((m2 + 2 : Nat) : Int) != ((m2 + 2 : Nat) : Int)) = false := by simp
      have HF : Hid _ := And.intro hry efn
      clear hcy0 hcy1 hry cy HA efn
      go_wp2_with fail
      have h0K : CrM w2 wa (.slice oa1 (m1 + 1) oc1) (.slice ta1 (m2 + 2) tc1) (one1 ++ opsF (fr.take 0)) two1 := by rw [List.take_zero]; simpa [opsF] using M5.out
      have h0N : ∀ b, (Value.slice oa1 (m1 + 1) oc1).ownBlock = some b → (Value.slice fa fn fc).ownBlock ≠ some b := fun b hb hf => by
        have h1 := (H4.out.1.o.ltF b hb).2
        have h2 := (HF.out.1.ltF b hf).1
        omega
      have H0 : Hid _ := And.intro h0K (And.intro HF.out.1.row h0N)
      have hfn : fn ≤ 2 := by rw [HF.out.2]; exact H4.out.2.2.2.2.2.2.2.1
      have hlen1 : one1.length = m1 + 1 := H1.out.2.1
      have HL1 : Hid _ := And.intro hlen1 True.intro
      clear h0K h0N y0 y1 y3 nm2 M5 hlen1
      rename World => we
      go_loopg [11, 14, 15, 24, 189] fn (fun q ov strv conv gv kv wx => ∃ k : Nat, k ≤ fn ∧ q = fn - k ∧ strv = .int .i64 (stK fr stream k) ∧ conv = .int .i64 (cnK fr conn k) ∧ kv = .int .i64 (k : Int) ∧ CrM w2 wx ov (.slice ta1 (m2 + 2) tc1) (one1 ++ opsF (fr.take k)) two1 ∧ GRow 8 wx (.slice fa fn fc) (fr.map frC) ∧ (∀ b, ov.ownBlock = some b → (Value.slice fa fn fc).ownBlock ≠ some b))
      case atStart => exact ⟨0, by omega, by omega, rfl, rfl, rfl, H0.out⟩
      case round =>
        clear H0
        obtain ⟨k, hk, hqk, rfl, rfl, rfl, RM, RF8, RN⟩ := hrel
        obtain ⟨sk, esk⟩ : ∃ s, s = stK fr stream k := ⟨_, rfl⟩
        obtain ⟨ck, eck⟩ : ∃ c, c = cnK fr conn k := ⟨_, rfl⟩
        rw [← esk, ← eck]
        obtain ⟨ko, kc, ek⟩ := RM.o.row.form
        have hlk : (SFlowOp.L (one1 ++ opsF (fr.take k))).length = m1 + 1 + k := by
          have := HF.out.2
          rw [List.length_map, List.length_append, HL1.out.1]
          simp only [opsF, List.length_map, List.length_take]
          omega
        rw [hlk] at ek
        subst ek
        by_cases hkn : k < fn
        · have hkf : k < fr.length := by rw [← HF.out.2]; exact hkn
          have ham := H4.out.2.2.2.2.2.2.2.2.1 k hkf
          rw [← esk, ← eck] at ham
          obtain ⟨fb, fo, fc', ef, hfb, cf⟩ := RF8.at' (by rw [List.length_map]; omega)
          injection ef with ef1 ef2 ef3
          subst ef1
          clear ef2 ef3
          have hcf := cf k (by rw [List.length_map]; exact hkf)
          rw [frC_at8 fr k hkf] at hcf
          clear cf
          have hss := stK_succ fr stream k hkf
          have hcs := cnK_succ fr conn k hkf
          have hos := opsF_succ fr k hkf
          rw [← esk] at hss
          rw [← eck] at hcs
          have hwr : w2.heap.size ≤ wr.heap.size := RM.bw.size
          rcases ham with ⟨efx, hlt8⟩ | ⟨efx, hlt8⟩
          · rw [efx] at hcf hss hcs hos
            dsimp only [frC] at hcf
            rw [if_pos rfl] at hss hcs hos
            dsimp only at hss hos
            have g0 : wr.cell? ⟨fb, fo + k * 8, none⟩ = some (.int .i64 17) := hcf 0 (by omega)
            have g1 : wr.cell? ⟨fb, fo + k * 8 + 1, none⟩ = some (.int .i64 0) := hcf 1 (by omega)
            have g2 : wr.cell? ⟨fb, fo + k * 8 + 2, none⟩ = some (.int .i64 XS) := hcf 2 (by omega)
            have g3 : wr.cell? ⟨fb, fo + k * 8 + 3, none⟩ = some (.int .i64 0) := hcf 3 (by omega)
            have g4 : wr.cell? ⟨fb, fo + k * 8 + 4, none⟩ = some (.bool false) := hcf 4 (by omega)
            have g5 : wr.cell? ⟨fb, fo + k * 8 + 5, none⟩ = some (.slice none 0 0) := hcf 5 (by omega)
            have g6 : wr.cell? ⟨fb, fo + k * 8 + 6, none⟩ = some (.slice none 0 0) := hcf 6 (by omega)
            have g7 : wr.cell? ⟨fb, fo + k * 8 + 7, none⟩ = some (.slice none 0 0) := hcf 7 (by omega)
            have hle : decide (XS ≤ sk) = false := by rw [decide_eq_false_iff_not]; omega
            have HK : Hid _ := And.intro (And.intro hss (And.intro hcs hos)) (And.intro RM (And.intro RF8 (And.intro RN (And.intro hqk hlk))))
            clear hss hcs hos RM RF8 RN esk eck efx hcf hlt8 hqk hlk hkf
            as_aux_lemma =>
            go_wp2_with (at_builtin; refine wpList_append_flatP rfl (.tmp 208) (.tmp 212) 25 32 Try.underlying25 _ 4 32 infoFlowOp rfl (by decide) (by decide) rfl w2.heap.size (.slice ko (m1 + 1 + k) kc) (SFlowOp.L (one1 ++ opsF (fr.take k))) (flatOps _) rfl ((HK.out.2.1.alloc _).o.below ((Below.refl _ _).alloc (Nat.le_refl _) _)) _ [[.int .i64 7, .int .i64 0, .int .i64 XS, .bool false]] (flatOps [⟨7, 0, XS, false⟩]) rfl (lit_flatG _ [.int .i64 7, .int .i64 0, .int .i64 XS, .bool false] _ _ (by simp)) (by rw [HK.out.2.2.2.2.2]; simp; omega) (by simp; omega) ?_; intro v6 w6 o6 g6 l6; have H6 : Hid _ := And.intro o6 (And.intro g6 l6); clear o6 g6 l6)
            go_roundg (fn - (k + 1))
            case measure => (have := HK.out.2.2.2.2.1; omega)
            case rel =>
              have P := (HK.out.2.1.alloc (.cells #[.int .i64 17, .int .i64 0, .int .i64 XS, .int .i64 0, .bool false, .slice none 0 0, .slice none 0 0, .slice none 0 0] 38)).push1 ⟨7, 0, XS, false⟩ H6.out.1 H6.out.2.1 H6.out.2.2
              have Q := grow_keep (by rw [List.length_map, ← HF.out.2]; omega) (HK.out.2.2.1) HK.out.2.2.2.1 (HK.out.2.1.o) H6.out.2.1 H6.out.2.2
              refine ⟨k + 1, by omega, rfl, by rw [HK.out.1.1], by rw [HK.out.1.2.1], by go_num, ?_, Q.1, Q.2⟩
              rw [HK.out.1.2.2, ← List.append_assoc]
              exact P
          · rw [efx] at hcf hss hcs hos
            dsimp only [frC] at hcf
            rw [if_neg (show ¬ ((16 : Int) = 17) by decide)] at hss hcs hos
            dsimp only at hcs hos
            have g0 : wr.cell? ⟨fb, fo + k * 8, none⟩ = some (.int .i64 16) := hcf 0 (by omega)
            have g1 : wr.cell? ⟨fb, fo + k * 8 + 1, none⟩ = some (.int .i64 XC) := hcf 1 (by omega)
            have g2 : wr.cell? ⟨fb, fo + k * 8 + 2, none⟩ = some (.int .i64 0) := hcf 2 (by omega)
            have g3 : wr.cell? ⟨fb, fo + k * 8 + 3, none⟩ = some (.int .i64 0) := hcf 3 (by omega)
            have g4 : wr.cell? ⟨fb, fo + k * 8 + 4, none⟩ = some (.bool false) := hcf 4 (by omega)
            have g5 : wr.cell? ⟨fb, fo + k * 8 + 5, none⟩ = some (.slice none 0 0) := hcf 5 (by omega)
            have g6 : wr.cell? ⟨fb, fo + k * 8 + 6, none⟩ = some (.slice none 0 0) := hcf 6 (by omega)
            have g7 : wr.cell? ⟨fb, fo + k * 8 + 7, none⟩ = some (.slice none 0 0) := hcf 7 (by omega)
            have hle : decide (XC ≤ ck) = false := by rw [decide_eq_false_iff_not]; omega
            have HK : Hid _ := And.intro (And.intro hss (And.intro hcs hos)) (And.intro RM (And.intro RF8 (And.intro RN (And.intro hqk hlk))))
            clear hss hcs hos RM RF8 RN esk eck efx hcf hlt8 hqk hlk hkf
            as_aux_lemma =>
            go_wp2_with (at_builtin; refine wpList_append_flatP rfl (.tmp 222) (.tmp 226) 25 32 Try.underlying25 _ 4 32 infoFlowOp rfl (by decide) (by decide) rfl w2.heap.size (.slice ko (m1 + 1 + k) kc) (SFlowOp.L (one1 ++ opsF (fr.take k))) (flatOps _) rfl ((HK.out.2.1.alloc _).o.below ((Below.refl _ _).alloc (Nat.le_refl _) _)) _ [[.int .i64 6, .int .i64 0, .int .i64 XC, .bool false]] (flatOps [⟨6, 0, XC, false⟩]) rfl (lit_flatG _ [.int .i64 6, .int .i64 0, .int .i64 XC, .bool false] _ _ (by simp)) (by rw [HK.out.2.2.2.2.2]; simp; omega) (by simp; omega) ?_; intro v6 w6 o6 g6 l6; have H6 : Hid _ := And.intro o6 (And.intro g6 l6); clear o6 g6 l6)
            go_roundg (fn - (k + 1))
            case measure => (have := HK.out.2.2.2.2.1; omega)
            case rel =>
              have P := (HK.out.2.1.alloc (.cells #[.int .i64 16, .int .i64 XC, .int .i64 0, .int .i64 0, .bool false, .slice none 0 0, .slice none 0 0, .slice none 0 0] 38)).push1 ⟨6, 0, XC, false⟩ H6.out.1 H6.out.2.1 H6.out.2.2
              have Q := grow_keep (by rw [List.length_map, ← HF.out.2]; omega) (HK.out.2.2.1) HK.out.2.2.2.1 (HK.out.2.1.o) H6.out.2.1 H6.out.2.2
              refine ⟨k + 1, by omega, rfl, by rw [HK.out.1.1], by rw [HK.out.1.2.1], by go_num, ?_, Q.1, Q.2⟩
              rw [HK.out.1.2.2, ← List.append_assoc]
              exact P
        · obtain rfl : k = fn := by omega
          have nlt : ¬ (k : Int) < (k : Int) := by omega
          have HK : Hid _ := And.intro RM (And.intro esk eck)
          clear RM RF8 RN esk eck hlk
          as_aux_lemma =>
          go_wp2_with fail
          go_roundg (12 - (i + 1))
          case measure => (have := HR.out.2.2.1; omega)
          case rel =>
            have h := H4.out.2.2.2.2.2.2.1
            have hn := H4.out.2.2.2.2.2.2.2.2.2
            have hM := HK.out.1
            have e9 : fr.take k = fr := by rw [HF.out.2, List.take_length]
            rw [e9] at hM
            refine ⟨i + 1, one1 ++ opsF fr, two1, sent + n, sk, ck, by omega, rfl, rfl, rfl, rfl, by go_num, ?_, hM⟩
            rw [HK.out.2.1, HK.out.2.2, HF.out.2, hn.1, hn.2]
            exact h
    · obtain rfl : i = 12 := by omega
      go_wp2_with fail
      go_ret
      exact ⟨rfl, H2.out.1.trans (hM.bw.mono H2.out.1.size)⟩
end Go.Proofs.Ythjakbpcpfmbjaa

namespace Go.Proofs.Ythjakbpcpfmbjaa.fnCredits
open Go.ChangeShapes Go.WideShapes Go.ChangeAt Go.RowKit
set_option linter.unusedVariables false

theorem own : ownKnob Try.prog.godebug = none := by kernel_rfl
theorem laidOut : laidOutB Try.prog = true := by kernel_rfl
theorem cells_b : Try.prog.cellsOf 5 = 1 := by kernel_rfl
set_option maxRecDepth 20000 in
theorem contract (H : Type) (enc : TypeId × Value → H) (W : World) (base : Nat) (args : Array Value) (ds gs : List (DataW H)) (before : List MemPlace)
    (hval : ∀ (j : Nat) t v, Try.f3.params[j]? = some t → args[j]? = some v → Value.okWide Try.prog W .any base t v)
    (hW : DataW.Whole enc Try.prog Try.f3.params.toList Rows.fnCreditsSpec.vars false W args.toList ds gs before) :
    Calls Try.prog 3 args W fun e W' => ∃ v, e = .returned v ∧ Rows.fnCreditsSpec.post enc Try.prog Try.f3 false true false false W args v W' := by
  have hW' := hW
  obtain ⟨p, q, hA0, hV, rfl, hfz, hnd⟩ := hW
  have hA : DataW.TrodAll enc Try.prog W 0 (fun _ => true) true Try.f3.params.toList args.toList ds p := hA0
  rw [Try.params3] at hA hval
  obtain ⟨v0, vs0, d0, ds0, p0, q0, hargs, rfl, rfl, h0, r0⟩ := trodAll_cons hA
  obtain ⟨rfl, rfl, rfl⟩ := trodAll_nil r0
  obtain rfl : args = #[v0] := by cases args; simp_all
  obtain ⟨rfl, rfl⟩ := trodVars_none hV
  obtain ⟨xs0, row0, len0, wf0⟩ := open_row Try.underlying22 Try.underlying5 cells_b (hval 0 22 v0 rfl rfl) h0
  refine (fnCredits_walk v0 xs0 len0 wf0 W row0).mono fun e W' ⟨he, hb⟩ => ?_
  subst he
  exact ⟨_, rfl, law_post laidOut (by kernel_rfl) (by kernel_rfl) (by kernel_rfl) Try.underlying4 hW' rfl hb⟩

theorem laid_met (os : Os) : laidMet Try.prog Rows.fnCreditsRow.laid ((World.holding Try.prog os ⟨#[], #[], []⟩).forCall (fun _ _ => 0) ⟨#[], #[.slice none 0 0], []⟩).memory :=
  laidMet_of_run' 8 (by kernel_rfl) (by kernel_rfl)
theorem reads (os : Os) {H : Type} (enc : TypeId × Value → H) : ∃ places, DataW.whole enc Try.prog ((World.holding Try.prog os ⟨#[], #[], []⟩).forCall (fun _ _ => 0) ⟨#[], #[.slice none 0 0], []⟩).memory Try.f3.params.toList Rows.fnCreditsSpec.vars false #[(.slice none 0 0 : Value)].toList 8 = some ([.nil], [], places) :=
  ⟨[], by kernel_rfl⟩

set_option maxRecDepth 100000 in
theorem lifted (os : Os) (started : os.Started) (H : Type) (enc : TypeId × Value → H) (F : Stop.Interp) :
    ReturnsInHanded {} Try.checked os 3 .any ((OpenSpec.ofChange Rows.fnCreditsSpec).preRow enc Try.prog Try.f3 Rows.fnCreditsRow.domain false Rows.fnCreditsRow.laid) (((OpenSpec.ofChange Rows.fnCreditsSpec).at F).post enc Try.prog Try.f3 false true false false) := by
  obtain ⟨places, hx⟩ := reads os enc
  refine returnsInHanded_of_row (C := Try.checked) (s := OpenSpec.ofChange Rows.fnCreditsSpec) own started (by kernel_rfl) Try.func3
    (witness_row_at (enc := enc) (C := Try.checked) false (World.holding Try.prog os ⟨#[], #[], []⟩) #[.slice none 0 0] rfl (by kernel_rfl) (by kernel_rfl) (by kernel_rfl)
      (OpenSpec.preRow_of_cond 8 hx (by kernel_rfl) (fun k hk => by cases hk) (by kernel_rfl) (laid_met os))) ?_
  intro W base args ds gs before hval hW _ _ _ hL _ _
  exact contract H enc W base args ds gs before hval hW

theorem said : Rows.FnCreditsSaid :=
  OpenClaim.holds_of_cond 3 Try.f3 rfl rfl rfl rfl rfl rfl rfl ⟨rfl, rfl, rfl, rfl, rfl⟩ rfl rfl rfl rfl rfl (by kernel_rfl) Try.func3 (by kernel_rfl)
    (of_decide_eq_true (by kernel_rfl)) (by unfold Func.isWrapper; first | (rw [if_pos (by decide +kernel)]; kernel_rfl) | (rw [if_neg (by decide +kernel)]; exact ⟨rfl, rfl⟩))
    (fun os started H enc _ F => by rw [OpenClaim.pre_eq_preRow]; exact lifted os started H enc F)

end Go.Proofs.Ythjakbpcpfmbjaa.fnCredits

namespace Go.Proofs.Ythjakbpcpfmbjaa
theorem fnCredits_holds : Rows.FnCreditsSaid := fnCredits.said
#print axioms fnCredits_holds
end Go.Proofs.Ythjakbpcpfmbjaa
