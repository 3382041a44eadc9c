import Derived.Test.YtdjflbanbhhniaaDoorStrB
import Derived.Test.YtdjflbanbhhniaaDoorStr
import Derived.Test.YtdjflbanbhhniaaDoorPartsB
namespace Go.Proofs.YtdjflbanbhhniaaDoor
open Go.RowKit
set_option linter.unusedVariables false

theorem conv_rowT {P : Program} {w : World} {e ts tstr : Nat} {v : Value} {xs : List Int} (hs : P.underlying ts = some (.slice e)) (he : P.underlying e = some (.int .u8)) (hd : P.underlying tstr = some .string)
    (h : Row w .u8 v xs) (h0 : 0 < xs.length) : (convert ts tstr v).run P w = .ok (.string (strOfNums xs)) w := by
  obtain ⟨b, off, cap, rfl, hb, hc⟩ := h.at h0
  exact run_convert_bytes_arg w ts e hs he b off xs.length cap xs rfl hc tstr hd
/-- The digits of k ahead of acc. -/
def dgT : Nat → Nat → ByteArray → ByteArray
  | 0, _, acc => acc
  | f + 1, k, acc => if k = 0 then acc else dgT f (k / 10) (strOfNums [48 + ((k : Int) % 10)] ++ acc)
theorem dgT_zero (f : Nat) (acc : ByteArray) : dgT f 0 acc = acc := by cases f <;> simp [dgT]
theorem dgT_more : ∀ (f k : Nat) (acc : ByteArray), k ≤ f → dgT f k acc = dgT k k acc := by
  intro f
  induction f using Nat.strongRecOn with
  | _ f ih =>
    intro k acc h
    cases f with
    | zero => have : k = 0 := by omega
              subst this; rfl
    | succ f =>
      cases k with
      | zero => rw [dgT_zero]; rfl
      | succ k =>
        show (if k + 1 = 0 then acc else dgT f ((k + 1) / 10) _) = (if k + 1 = 0 then acc else dgT k ((k + 1) / 10) _)
        rw [if_neg (by omega), if_neg (by omega), ih f (by omega) _ _ (by omega), ih k (by omega) _ _ (by omega)]
def mkT (k : Int) : ByteArray := if k ≤ 0 then ⟨#[109, 48]⟩ else ⟨#[109]⟩ ++ dgT k.toNat k.toNat ByteArray.empty
set_option maxRecDepth 20000 in
set_option maxHeartbeats 800000 in
theorem markTextC (k : Int) (w : World) (h1 : k ≤ 1000000000000000) :
    Calls Tryd.prog 23 #[.int .i64 k] w fun e w' => e = .returned (.string (mkT k)) ∧ Below w.heap.size w w' := by
  by_cases h0 : k ≤ 0
  · have e : mkT k = ⟨#[109, 48]⟩ := by unfold mkT; rw [if_pos h0]
    rw [e]
    clear e
    go_enter Tryd.func23, Tryd.ntmps23
    go_wp2
    go_ret
    exact ⟨rfl, Below.refl _ _⟩
  · have e : mkT k = ⟨#[109]⟩ ++ dgT k.toNat k.toNat ByteArray.empty := by unfold mkT; rw [if_neg h0]
    obtain ⟨n, rfl⟩ : ∃ n : Nat, k = (n : Int) := ⟨k.toNat, by omega⟩
    obtain ⟨R, eR⟩ : ∃ R, R = dgT n n ByteArray.empty := ⟨_, rfl⟩
    rw [e, Int.toNat_natCast, ← eR]
    have HR : Hid _ := And.intro eR True.intro
    clear e eR
    go_enter Tryd.func23, Tryd.ntmps23
    go_wp2
    go_loopg [0, 3] n (fun q s t wr => ∃ (m : Nat) (acc : ByteArray), m ≤ n ∧ q = m ∧ s = .int .i64 (m : Int) ∧ t = .string acc ∧ Hid (dgT m m acc = R) ∧ acc.size ≤ n - m ∧ Below w.heap.size w wr)
    case atStart => exact ⟨n, ByteArray.empty, Nat.le_refl _, rfl, rfl, rfl, HR.out.1.symm, by simp, Below.refl _ _⟩
    case round =>
      obtain ⟨m, acc, hm, rfl, rfl, rfl, HD, hsz, hb⟩ := hrel
      by_cases hz : gk = 0
      · subst hz
        go_wp2
        all_goals first
          | (exfalso; simp at *; omega)
          | (go_ret
             refine ⟨?_, hb⟩
             have := HD.out
             rw [dgT_zero] at this
             rw [← this]
             rfl)
      · have hp : (0 : Int) < (gk : Int) := by omega
        have hs1 : (strOfNums [48 + (gk : Int) % 10]).size = 1 := rfl
        have hcv : ∀ x : Int, (convert 64 9 (.slice (some ⟨wr.heap.size, 0, none⟩) 1 1)).run Tryd.prog (wr.alloc (.cells #[.int .u8 x] 5)) = .ok (.string (strOfNums [x])) (wr.alloc (.cells #[.int .u8 x] 5)) := fun x => conv_rowT Tryd.underlying64 Tryd.underlying5 Tryd.underlying9 (one_row wr x) (by simp)
        have HZ : Hid _ := And.intro hs1 True.intro
        clear hs1
        go_wp2
        all_goals first
          | (exfalso; have := HZ.out.1; omega)
          | skip
        go_roundg (gk / 10)
        case measure => omega
        case rel =>
          refine ⟨gk / 10, _, by omega, rfl, by go_num, rfl, ?_, ?_, hb.alloc hb.size _⟩
          · show dgT _ _ _ = R
            have h := HD.out
            obtain ⟨f, rfl⟩ : ∃ f, gk = f + 1 := ⟨gk - 1, by omega⟩
            rw [← h]
            show _ = (if f + 1 = 0 then acc else dgT f ((f + 1) / 10) _)
            rw [if_neg (by omega), dgT_more f _ _ (by omega)]
          · have := HZ.out.1
            rw [ByteArray.size_append]
            omega
end Go.Proofs.YtdjflbanbhhniaaDoor
