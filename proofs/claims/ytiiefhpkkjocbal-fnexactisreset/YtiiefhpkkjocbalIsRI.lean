import Derived.Test.YtiiefhpkkjocbalIsRB
import Derived.Test.YtiiefhpkkjocbalPartsB
namespace Go.Proofs.Ytiiefhpkkjocbal
open Go.RowKit
set_option linter.unusedVariables false

set_option maxHeartbeats 1000000 in
theorem bEq_true (aa ab' : Option Addr) (ca cb : Nat) (xs : List Int) (w : World) (ra : Row w .u8 (.slice aa 8 ca) xs) (rb : Row w .u8 (.slice ab' 8 cb) xs) (l8 : xs.length = 8) :
    Calls Try.prog 37 #[.slice aa 8 ca, .slice ab' 8 cb] w fun e w' => e = .returned (.bool true) ∧ w' = w := by
  have h1 := conv_rowR Try.underlying22 Try.underlying5 Try.underlying9 ra (by omega)
  have h2 := conv_rowR Try.underlying22 Try.underlying5 Try.underlying9 rb (by omega)
  clear ra rb l8
  generalize strOfNums xs = s at h1 h2
  go_enter Try.func37, Try.ntmps37
  go_wp2
  go_ret
  exact ⟨rfl, rfl⟩
set_option maxHeartbeats 1000000 in
theorem bEq_false (aa ab' : Option Addr) (ca cb : Nat) (xs ys : List Int) (w : World) (ra : Row w .u8 (.slice aa 8 ca) xs) (rb : Row w .u8 (.slice ab' 8 cb) ys) (l8 : xs.length = 8) (m8 : ys.length = 8) (bx : Bytes xs) (by' : Bytes ys) (hne : xs ≠ ys) :
    Calls Try.prog 37 #[.slice aa 8 ca, .slice ab' 8 cb] w fun e w' => e = .returned (.bool false) ∧ w' = w := by
  have h1 := conv_rowR Try.underlying22 Try.underlying5 Try.underlying9 ra (by omega)
  have h2 := conv_rowR Try.underlying22 Try.underlying5 Try.underlying9 rb (by omega)
  have h3 := str_ne xs ys bx by' hne
  clear ra rb l8 m8 bx by' hne
  generalize strOfNums xs = s at h1 h3
  generalize strOfNums ys = t at h2 h3
  go_enter Try.func37, Try.ntmps37
  go_wp2
  go_ret
  exact ⟨rfl, rfl⟩
set_option maxRecDepth 20000 in
set_option maxHeartbeats 1000000 in
theorem hasSuf (b off n pb : Nat) (au : Option Addr) (cu : Nat) (t xs : List Int) (r : Bool) (w : World) (rb : Row w .u8 (.slice (some ⟨b, off + n, none⟩) 8 (pb - n)) t) (hp1 : n + 8 ≤ pb) (hp2 : pb ≤ 9223372036854775807) (ru : Row w .u8 (.slice au 8 cu) xs) (lt : t.length = 8) (lx : xs.length = 8) (bt : Bytes t) (bx : Bytes xs) (hr : (r = true ∧ xs = t) ∨ (r = false ∧ xs ≠ t)) :
    Calls Try.prog 28 #[.slice (some ⟨b, off, none⟩) (n + 8) pb, .slice au 8 cu] w fun e w' => e = .returned (.bool r) ∧ w' = w := by
  have EQ : Calls Try.prog 37 #[.slice (some ⟨b, off + n, none⟩) 8 (pb - n), .slice au 8 cu] w fun e w' => e = .returned (.bool r) ∧ w' = w := by
    rcases hr with ⟨rfl, rfl⟩ | ⟨rfl, hne⟩
    · exact bEq_true _ _ _ _ xs w rb ru lx
    · exact bEq_false _ _ _ _ t xs w rb ru lt lx bt bx (fun e => hne e.symm)
  have hne : ¬ pb = n := by omega
  have hpn : (n : Int) ≤ (pb : Int) := by omega
  have hpn8 : (n : Int) ≤ (n : Int) + 8 := by omega
  have H : Hid _ := And.intro EQ True.intro
  clear EQ rb ru lt lx bt bx hr
  go_enter Try.func28, Try.ntmps28
  go_wp2_with (go_at_call 37; refine H.out.1.mono ?_; rintro e w' ⟨rfl, hw⟩; subst w')
  go_ret
  exact ⟨rfl, rfl⟩
set_option maxRecDepth 20000 in
set_option maxHeartbeats 1000000 in
/-- The closure: whether a token is the one that the packet ends with. -/
theorem isrClo (g : Nat) (b off n pb : Nat) (au : Option Addr) (cu nu : Nat) (t xs : List Int) (r : Bool) (w : World) (hg : w.cell? ⟨g, 0, none⟩ = some (.slice (some ⟨b, off, none⟩) (n + 8) pb)) (rb : Row w .u8 (.slice (some ⟨b, off + n, none⟩) 8 (pb - n)) t) (hp1 : n + 8 ≤ pb) (hp2 : pb ≤ 9223372036854775807) (ru : Row w .u8 (.slice au nu cu) xs) (lt : t.length = 8) (lx : xs.length = nu) (bt : Bytes t) (bx : Bytes xs) (hnu : nu ≤ 1048576) (hr : (r = true ∧ xs = t) ∨ (r = false ∧ xs ≠ t)) :
    Calls Try.prog 27 #[.slice au nu cu, .pointer (some ⟨g, 0, none⟩)] w fun e w' => e = .returned (.bool r) ∧ w' = w := by
  by_cases h8 : nu = 8
  · subst h8
    have HS : Hid _ := And.intro (hasSuf b off n pb au cu t xs r w rb hp1 hp2 ru lt lx bt bx hr) True.intro
    clear rb ru lt lx bt bx hr hp1 hp2
    go_enter Try.func27, Try.ntmps27
    go_wp2_with (go_at_call 28; refine HS.out.1.mono ?_; rintro e w' ⟨rfl, hw⟩; subst w')
    go_ret
    exact ⟨rfl, rfl⟩
  · have hrf : r = false := by
      rcases hr with ⟨_, e⟩ | ⟨e, _⟩
      · exfalso; rw [e] at lx; omega
      · exact e
    subst hrf
    have hne8 : ((nu : Int) == 8) = false := by rw [beq_eq_false_iff_ne]; omega
    clear rb ru lt lx bt bx hr hp1 hp2 h8
    go_enter Try.func27, Try.ntmps27
    go_wp2
    go_ret
    exact ⟨rfl, rfl⟩
set_option maxRecDepth 20000 in
set_option maxHeartbeats 2000000 in
theorem idxF (g b off n pb : Nat) (at' : Option Addr) (m ct : Nat) (t : List Int) (L : List (List Int)) (r : Int) (w : World) (hg : w.cell? ⟨g, 0, none⟩ = some (.slice (some ⟨b, off, none⟩) (n + 8) pb)) (rb : Row w .u8 (.slice (some ⟨b, off + n, none⟩) 8 (pb - n)) t) (hp1 : n + 8 ≤ pb) (hp2 : pb ≤ 9223372036854775807) (lt : t.length = 8) (bt : Bytes t)
    (hL : SRow w (.slice at' m ct) L) (em : L.length = m) (hm : m ≤ 4096) (bL : ∀ j, Bytes (L.getD j [])) (sL : ∀ j, (L.getD j []).length ≤ 1048576) (ho : IdxOut L t r) :
    Calls Try.prog 26 #[.slice at' m ct, .func (.func 27) #[] #[.pointer (some ⟨g, 0, none⟩)]] w fun e w' => e = .returned (.int .i64 r) ∧ w' = w := by
  have HH : Hid _ := And.intro hg (And.intro rb (And.intro lt (And.intro hL (And.intro em (And.intro bL (And.intro sL (And.intro ho (And.intro bt (And.intro hp1 hp2)))))))))
  clear hg rb lt bt hL em bL sL ho hp1 hp2
  go_enter Try.func26, Try.ntmps26
  go_wp2_with fail
  go_loopw [8] (fun i wr => ∃ k : Nat, k ≤ m ∧ i = .int .i64 (k : Int) ∧ wr = w ∧ ∀ j, j < k → L.getD j [] ≠ t) (fun i _ => m - (intOf i).toNat)
  case atStart => exact ⟨0, by omega, rfl, rfl, fun j hj => by omega⟩
  case round =>
    obtain ⟨k, hk, rfl, ewr, hno⟩ := hrel
    subst wr
    by_cases hlt : k < m
    · obtain ⟨b2, o2, c2, ev, hbl, hc⟩ := HH.out.2.2.2.1.at' (by have := HH.out.2.2.2.2.1; omega)
      simp only [Value.slice.injEq] at ev
      obtain ⟨rfl, em2, rfl⟩ := ev
      clear em2
      obtain ⟨u, hu, ru⟩ := hc k (by have := HH.out.2.2.2.2.1; omega)
      obtain ⟨au, cu, rfl⟩ := ru.form
      by_cases heq : L.getD k [] = t
      · have CL := isrClo g b off n pb au cu _ t (L.getD k []) true w HH.out.1 HH.out.2.1 HH.out.2.2.2.2.2.2.2.2.2.1 HH.out.2.2.2.2.2.2.2.2.2.2 ru HH.out.2.2.1 rfl HH.out.2.2.2.2.2.2.2.2.1 (HH.out.2.2.2.2.2.1 k) (HH.out.2.2.2.2.2.2.1 k) (Or.inl ⟨rfl, heq⟩)
        have hr := HH.out.2.2.2.2.2.2.2.1.hit k (by have := HH.out.2.2.2.2.1; omega) heq hno
        subst hr
        have HC : Hid _ := And.intro CL True.intro
        clear CL ru heq hno hc
        generalize (L.getD k []).length = nk at hu HC
        go_wp2_with (go_at_call 27; refine HC.out.1.mono ?_; rintro e w' ⟨rfl, hw⟩; subst w')
        go_ret
        exact ⟨rfl, by trivial⟩
      · have CL := isrClo g b off n pb au cu _ t (L.getD k []) false w HH.out.1 HH.out.2.1 HH.out.2.2.2.2.2.2.2.2.2.1 HH.out.2.2.2.2.2.2.2.2.2.2 ru HH.out.2.2.1 rfl HH.out.2.2.2.2.2.2.2.2.1 (HH.out.2.2.2.2.2.1 k) (HH.out.2.2.2.2.2.2.1 k) (Or.inr ⟨rfl, heq⟩)
        have HC : Hid _ := And.intro CL (And.intro hno heq)
        clear CL ru heq hno hc
        generalize hnk : (L.getD k []).length = nk at hu HC
        clear hnk
        go_wp2_with (go_at_call 27; refine HC.out.1.mono ?_; rintro e w' ⟨rfl, hw⟩; subst w')
        go_roundw
        case rel => exact ⟨k + 1, by omega, by go_num, by trivial, fun j hj => by
          by_cases hjk : j = k
          · rw [hjk]; exact HC.out.2.2
          · exact HC.out.2.1 j (by omega)⟩
        case measure => simp [intOf]; omega
    · have hr := HH.out.2.2.2.2.2.2.2.1.miss (fun j hj => hno j (by have := HH.out.2.2.2.2.1; omega))
      subst hr
      clear hno
      go_wp2
      go_ret
      exact ⟨rfl, by trivial⟩
set_option maxRecDepth 20000 in
set_option maxHeartbeats 4000000 in
theorem isrI_core (b off n pb : Nat) (xs : List Int) (at' : Option Addr) (m ct : Nat) (L : List (List Int)) (r : Int) (w : World) (hx : Row w .u8 (.slice (some ⟨b, off, none⟩) (n + 8) pb) xs) (hN : xs.length = n + 8) (h13 : 13 ≤ n) (hmx : n + 8 ≤ 65536) (bx : Bytes xs) (x0 : Int) (hx0 : x0 = xs.getD 0 0) (h64 : 64 ≤ x0) (h127 : x0 ≤ 127)
    (hL : SRow w (.slice at' m ct) L) (em : L.length = m) (hm : m ≤ 4096) (bL : ∀ j, Bytes (L.getD j [])) (sL : ∀ j, (L.getD j []).length ≤ 1048576) (ho : IdxOut L (xs.drop n) r) :
    Calls Try.prog 17 #[.slice (some ⟨b, off, none⟩) (n + 8) pb, .slice at' m ct] w fun e w' => e = .returned (.int .i64 r) ∧ Below w.heap.size w w' := by
  obtain ⟨b', off', cap', eq', hbl, hcap, hcs⟩ := hx.full (by omega)
  rw [hN] at eq' hcap
  cases eq'
  have rowB : Row w .u8 (.slice (some ⟨b, off + n, none⟩) 8 (pb - n)) (xs.drop n) := by
    have := row_cut (at' := n) (n := 8) (cap' := pb - n) (cap := pb) hbl hcs (by omega) ⟨by omega, by have := hcap.2; omega⟩
    rw [List.take_of_length_le (by rw [List.length_drop]; omega)] at this
    exact this
  have bB : Bytes (xs.drop n) := fun x hx => bx x (List.mem_of_mem_drop hx)
  have lB : (xs.drop n).length = 8 := by rw [List.length_drop]; omega
  have c0 : w.cell? ⟨b, off, none⟩ = some (.int .u8 x0) := by have h := hcs 0 (by omega); rw [Nat.add_zero] at h; rw [h, hx0]
  have hp2 : pb ≤ 9223372036854775807 := by have := hcap.2; unfold maxLen at this; omega
  have SH := shortG x0 h64 h127
  have c1 := (Below.refl w.heap.size w).alloc (Nat.le_refl _) (.cells #[.slice (some ⟨b, off, none⟩) (n + 8) pb] 22)
  have c2 := (c1.cell (p := ⟨b, off, none⟩) hbl).trans c0
  have hgx : (w.alloc (.cells #[.slice (some ⟨b, off, none⟩) (n + 8) pb] 22)).cell? ⟨w.heap.size, 0, none⟩ = some (.slice (some ⟨b, off, none⟩) (n + 8) pb) := by
    rw [blkS_cell (MapKept.heap_alloc w _).1]
    rfl
  have IX := idxF w.heap.size b off n pb at' m ct (xs.drop n) L r _ hgx (rowB.below c1) hcap.1 hp2 lB bB (hL.below c1) em hm bL sL ho
  have hd1 : decide ((65536 : Int) < (n : Int) + 8) = false := decide_eq_false (by omega)
  have hd2 : decide ((n : Int) + 8 < 21) = false := decide_eq_false (by omega)
  have hd3 : decide ((4096 : Int) < (m : Int)) = false := decide_eq_false (by omega)
  have HS : Hid _ := And.intro SH (And.intro c1 IX)
  clear SH c1 hbl c0 h13 hmx h64 h127 hm IX hgx rowB bB lB hx hN bx hx0 hL em bL sL ho hcs hcap
  go_enter Try.func17, Try.ntmps17
  go_wp2_with (first
    | (go_at_call 25; refine (HS.out.1 _).mono ?_; rintro e w' ⟨rfl, hw⟩; subst w')
    | (go_at_call 26; refine HS.out.2.2.mono ?_; rintro e w' ⟨rfl, hw⟩; subst w'))
  go_ret
  exact ⟨rfl, HS.out.2.1⟩
end Go.Proofs.Ytiiefhpkkjocbal
