import Derived.Test.YtiiefhpkkjocbalSS
import Derived.Test.YtiiefhpkkjocbalStrNe
import Derived.BigQuiet
namespace Go.Proofs.Ytiiefhpkkjocbal
open Go.RowKit
set_option linter.unusedVariables false

/-- The place of the first list that is t, or -1. -/
structure IdxOut (L : List (List Int)) (t : List Int) (r : Int) : Prop where
  hit : ∀ k, k < L.length → L.getD k [] = t → (∀ j, j < k → L.getD j [] ≠ t) → r = (k : Int)
  miss : (∀ j, j < L.length → L.getD j [] ≠ t) → r = -1
theorem idx_ex (L : List (List Int)) (t : List Int) : ∃ r, IdxOut L t r := by
  by_cases h : ∃ k, k < L.length ∧ L.getD k [] = t
  · obtain ⟨k, ⟨hk, hm⟩⟩ := exists_least h
    refine ⟨(k : Int), ⟨fun j hj he hn => ?_, fun hn => absurd hk.2 (hn k hk.1)⟩⟩
    have h1 := hm j ⟨hj, he⟩
    rcases Nat.lt_or_ge k j with hlt | hge
    · exact absurd hk.2 (hn k hlt)
    · have : k = j := by omega
      rw [this]
  · exact ⟨-1, ⟨fun k hk he _ => absurd ⟨k, hk, he⟩ h, fun _ => rfl⟩⟩
theorem conv_rowR {P : Program} {w : World} {e ts tstr : Nat} {v : Value} {xs : List Int} (hs : P.underlying ts = some (.slice e)) (he : P.underlying e = some (.int .u8)) (hd : P.underlying tstr = some .string)
    (h : Row w .u8 v xs) (h0 : 0 < xs.length) : (convert ts tstr v).run P w = .ok (.string (strOfNums xs)) w := by
  obtain ⟨b, off, cap, rfl, hb, hc⟩ := h.at h0
  exact run_convert_bytes_arg w ts e hs he b off xs.length cap xs rfl hc tstr hd
set_option maxRecDepth 200000 in
set_option maxHeartbeats 4000000 in
theorem isrS_core (b off n pb : Nat) (xs : List Int) (vt : Value) (at' : Option Addr) (m ct : Nat) (L : List (List Int)) (r : Int) (w : World) (hx : Row w .u8 (.slice (some ⟨b, off, none⟩) (n + 8) pb) xs) (hN : xs.length = n + 8) (h13 : 13 ≤ n) (hmx : n + 8 ≤ 65536) (bx : Bytes xs) (x0 : Int) (hx0 : x0 = xs.getD 0 0) (h64 : 64 ≤ x0) (h127 : x0 ≤ 127)
    (hL : SRow w (.slice at' m ct) L) (em : L.length = m) (hm : m ≤ 4096) (bL : ∀ j, Bytes (L.getD j [])) (sL : ∀ j, (L.getD j []).length ≤ 1048576) (ho : IdxOut L (xs.drop n) r) :
    Calls Try.prog 15 #[.slice (some ⟨b, off, none⟩) (n + 8) pb, .slice at' m ct] w fun e w' => e = .returned (.int .i64 r) ∧ Below w.heap.size w w' := by
  obtain ⟨b', off', cap', eq', hbl, hcap, hcs⟩ := hx.full (by omega)
  rw [hN] at eq' hcap
  cases eq'
  have rowB : Row w .u8 (.slice (some ⟨b, off + n, none⟩) 8 (pb - n)) (xs.drop n) := by
    have := row_cut (at' := n) (n := 8) (cap' := pb - n) (cap := pb) hbl hcs (by omega) ⟨by omega, by have := hcap.2; omega⟩
    rw [List.take_of_length_le (by rw [List.length_drop]; omega)] at this
    exact this
  have bB : Bytes (xs.drop n) := fun x hx => bx x (List.mem_of_mem_drop hx)
  have lB : (xs.drop n).length = 8 := by rw [List.length_drop]; omega
  have c0 : w.cell? ⟨b, off, none⟩ = some (.int .u8 x0) := by have h := hcs 0 (by omega); rw [Nat.add_zero] at h; rw [h, hx0]
  have hp1 := hcap.1
  have hp2 : pb ≤ 9223372036854775807 := by have := hcap.2; unfold maxLen at this; omega
  have hne : ¬ pb = n := by omega
  have hpn : (n : Int) ≤ (pb : Int) := by omega
  have hpn8 : (n : Int) ≤ (n : Int) + 8 := by omega
  generalize xs.drop n = t at rowB bB lB ho
  have HH : Hid _ := And.intro rowB (And.intro bB (And.intro lB (And.intro hL (And.intro em (And.intro bL (And.intro sL ho))))))
  clear rowB bB lB hL em bL sL ho hx hN bx hx0 hcs hbl hcap
  have hd1 : decide ((65536 : Int) < (n : Int) + 8) = false := decide_eq_false (by omega)
  have hd2 : decide ((n : Int) + 8 < 21) = false := decide_eq_false (by omega)
  have hd3 : decide ((4096 : Int) < (m : Int)) = false := decide_eq_false (by omega)
  have hd4 : decide (x0 < 64) = false := decide_eq_false (by omega)
  have hd5 : decide (127 < x0) = false := decide_eq_false (by omega)
  have HM : Hid _ := And.intro hm hmx
  clear hmx h13 hm h64 h127
  go_enter Try.func15, Try.ntmps15
  go_wp2_with fail
  have hm := HM.out.1
  clear hd1 hd2 hd3 hd4 hd5 c0
  go_loopg [5] m (fun q i wr => ∃ k : Nat, k ≤ m ∧ q = m - k ∧ i = .int .i64 (k : Int) ∧ Below w.heap.size w wr ∧ ∀ j, j < k → L.getD j [] ≠ t)
  case atStart => exact ⟨0, by omega, by omega, rfl, Below.refl _ _, fun j hj => by omega⟩
  case round =>
    obtain ⟨k, hk, hq, rfl, bw, hno⟩ := hrel
    by_cases hlt : k < m
    · obtain ⟨bt, ot, cpt, ev, hbt, hc⟩ := HH.out.2.2.2.1.at' (by have := HH.out.2.2.2.2.1; omega)
      simp only [Value.slice.injEq] at ev
      obtain ⟨rfl, _, rfl⟩ := ev
      obtain ⟨u, hu, ru⟩ := hc k (by have := HH.out.2.2.2.2.1; omega)
      obtain ⟨au, cu, rfl⟩ := ru.form
      have bd : Below w.heap.size w wr.drew := below_drewN bw 1
      have c1 := (bw.cell (p := ⟨bt, ot + k, none⟩) hbt).trans hu
      have ru' := ru.below bw
      have rb' := HH.out.1.below bw
      have sl := HH.out.2.2.2.2.2.2.1 k
      by_cases h8 : (L.getD k []).length = 8
      · have hcv1 : ∀ q : Nat, _ := fun q => conv_rowR (w := wr.drewN q) Try.underlying22 Try.underlying5 Try.underlying9 (ru'.drewN q) (by omega)
        have hcv2 : ∀ q : Nat, _ := fun q => conv_rowR (w := wr.drewN q) Try.underlying22 Try.underlying5 Try.underlying9 (rb'.drewN q) (by have := HH.out.2.2.1; omega)
        rw [h8] at c1 hcv1
        by_cases heq : L.getD k [] = t
        · have hr := HH.out.2.2.2.2.2.2.2.hit k (by have := HH.out.2.2.2.2.1; omega) heq hno
          subst hr
          rw [heq] at hcv1
          have H4 : Hid _ := And.intro bw True.intro
          clear hu ru ru' rb' bd sl h8 heq hno hc
          go_upto_region 6 with fail
          go_quiet (fail)
          go_wp2
          go_ret
          exact ⟨rfl, below_drewN H4.out.1 _⟩
        · have hs := str_ne (L.getD k []) t (HH.out.2.2.2.2.2.1 k) HH.out.2.1 heq
          have H4 : Hid _ := And.intro bw (And.intro hno heq)
          clear hu ru ru' rb' bd sl h8 heq hno hc
          generalize strOfNums (L.getD k []) = s1 at hcv1 hs
          generalize strOfNums t = s2 at hcv2 hs
          go_upto_region 6 with fail
          go_quiet (fail)
          go_wp2
          go_roundg (m - (k + 1))
          case measure => omega
          case rel => exact ⟨k + 1, by omega, rfl, by go_num, below_drewN H4.out.1 _, fun j hj => by
            by_cases hjk : j = k
            · rw [hjk]; exact H4.out.2.2
            · exact H4.out.2.1 j (by omega)⟩
      · have hne8 : (((L.getD k []).length : Int) == 8) = false := by rw [beq_eq_false_iff_ne]; omega
        have hnt : L.getD k [] ≠ t := fun e => h8 (by rw [e]; exact HH.out.2.2.1)
        have H4 : Hid _ := And.intro bw (And.intro hno hnt)
        clear hu ru ru' rb' bd h8 hno hnt hc
        generalize (L.getD k []).length = nk at c1 hne8 sl
        go_upto_region 6 with fail
        go_quiet (fail)
        go_wp2
        go_roundg (m - (k + 1))
        case measure => omega
        case rel => exact ⟨k + 1, by omega, rfl, by go_num, below_drewN H4.out.1 _, fun j hj => by
          by_cases hjk : j = k
          · rw [hjk]; exact H4.out.2.2
          · exact H4.out.2.1 j (by omega)⟩
    · have hr := HH.out.2.2.2.2.2.2.2.miss (fun j hj => hno j (by have := HH.out.2.2.2.2.1; omega))
      subst hr
      have H4 : Hid _ := And.intro bw True.intro
      clear bw hno
      go_wp2
      go_ret
      exact ⟨rfl, H4.out.1⟩
end Go.Proofs.Ytiiefhpkkjocbal
