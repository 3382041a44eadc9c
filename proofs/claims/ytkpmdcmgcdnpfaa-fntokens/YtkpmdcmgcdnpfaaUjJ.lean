import Derived.Test.YtkpmdcmgcdnpfaaSealS
import Derived.Test.YtkpmdcmgcdnpfaaISeal
import Derived.Test.YtkpmdcmgcdnpfaaKeysOf
import Derived.Test.YtkpmdcmgcdnpfaaIKeysOf
import Derived.Test.YtkpmdcmgcdnpfaaIReset
import Derived.Test.YtkpmdcmgcdnpfaaOpenS
import Derived.Test.YtkpmdcmgcdnpfaaSpecVal
import Derived.Test.YtkpmdcmgcdnpfaaMem
import Derived.Test.YtkpmdcmgcdnpfaaKeys
import Derived.Test.YtkpmdcmgcdnpfaaIOpenAll
import Derived.Test.YtkpmdcmgcdnpfaaVals
import Derived.BigRegion
import Derived.Test.YtkpmdcmgcdnpfaaXor
import Derived.Test.YtkpmdcmgcdnpfaaBlocks
import Derived.Lib.MinMax
import Derived.Test.YtkpmdcmgcdnpfaaRows
import Derived.Test.YtkpmdcmgcdnpfaaLift
import Derived.Lib.LaidTab
namespace Go.Proofs.Ytkpmdcmgcdnpfaa
open Go.RowKit
set_option linter.unusedVariables false

/-- Arguments that a token may have: the key's and the address' lengths, the time. -/
def tArg (n m : Nat) (t : Int) : Prop := n = 16 ∧ m ≤ 24 ∧ 0 ≤ t ∧ t ≤ 1000000000000

theorem tmS_t (t : Int) (w : World) (h : 0 ≤ t ∧ t ≤ 1000000000000) : Calls Try.prog 40 #[.int .i64 t] w fun e w' => e = .returned (.bool true) ∧ w' = w := by
  go_enter Try.func40, Try.ntmps40
  go_wp2
  go_ret
  exact ⟨rfl, rfl⟩
theorem tmS_f (t : Int) (w : World) (h : ¬ (0 ≤ t ∧ t ≤ 1000000000000)) : Calls Try.prog 40 #[.int .i64 t] w fun e w' => e = .returned (.bool false) ∧ w' = w := by
  by_cases h0 : 0 ≤ t
  · have h1 : 1000000000000 < t := by omega
    go_enter Try.func40, Try.ntmps40
    go_wp2
    go_ret
    exact ⟨by simp [show ¬ t ≤ 1000000000000 by omega], rfl⟩
  · go_enter Try.func40, Try.ntmps40
    go_wp2
    go_ret
    exact ⟨rfl, rfl⟩
theorem tmI_t (t : Int) (w : World) (h : 0 ≤ t ∧ t ≤ 1000000000000) : Calls Try.prog 32 #[.int .i64 t] w fun e w' => e = .returned (.bool true) ∧ w' = w := by
  go_enter Try.func32, Try.ntmps32
  go_wp2
  go_ret
  exact ⟨rfl, rfl⟩
theorem tmI_f (t : Int) (w : World) (h : ¬ (0 ≤ t ∧ t ≤ 1000000000000)) : Calls Try.prog 32 #[.int .i64 t] w fun e w' => e = .returned (.bool false) ∧ w' = w := by
  by_cases h0 : 0 ≤ t
  · have h1 : 1000000000000 < t := by omega
    go_enter Try.func32, Try.ntmps32
    go_wp2
    go_ret
    exact ⟨by simp [show ¬ t ≤ 1000000000000 by omega], rfl⟩
  · go_enter Try.func32, Try.ntmps32
    go_wp2
    go_ret
    exact ⟨rfl, rfl⟩
theorem taS_t (ak aa : Option Addr) (m pk pa : Nat) (t : Int) (w : World) (hm : m ≤ 24) (ht : 0 ≤ t ∧ t ≤ 1000000000000) :
    Calls Try.prog 19 #[.slice ak 16 pk, .slice aa m pa, .int .i64 t] w fun e w' => e = .returned (.bool true) ∧ w' = w := by
  go_enter Try.func19, Try.ntmps19
  go_wp2_with fail
  go_at_call 40
  refine (tmS_t t w ht).mono ?_
  rintro e w2 ⟨rfl, rfl⟩
  go_wp2
  go_ret
  exact ⟨rfl, rfl⟩
theorem taS_f (ak aa : Option Addr) (n m pk pa : Nat) (t : Int) (w : World) (hn : n ≤ 9223372036854775807) (hm : m ≤ 9223372036854775807) (h : ¬ tArg n m t) :
    Calls Try.prog 19 #[.slice ak n pk, .slice aa m pa, .int .i64 t] w fun e w' => e = .returned (.bool false) ∧ w' = w := by
  unfold tArg at h
  by_cases h16 : n = 16
  · subst h16
    by_cases h24 : m ≤ 24
    · have ht : ¬ (0 ≤ t ∧ t ≤ 1000000000000) := by omega
      clear h
      go_enter Try.func19, Try.ntmps19
      go_wp2_with fail
      go_at_call 40
      refine (tmS_f t w ht).mono ?_
      rintro e w2 ⟨rfl, rfl⟩
      go_wp2
      go_ret
      exact ⟨rfl, rfl⟩
    · clear h
      go_enter Try.func19, Try.ntmps19
      go_wp2
      go_ret
      exact ⟨rfl, rfl⟩
  · have hne : ((n : Int) == 16) = false := by simp; omega
    clear h h16
    go_enter Try.func19, Try.ntmps19
    go_wp2
    go_ret
    exact ⟨rfl, rfl⟩
theorem taI_t (ak aa : Option Addr) (m pk pa : Nat) (t : Int) (w : World) (hm : m ≤ 24) (ht : 0 ≤ t ∧ t ≤ 1000000000000) :
    Calls Try.prog 14 #[.slice ak 16 pk, .slice aa m pa, .int .i64 t] w fun e w' => e = .returned (.bool true) ∧ w' = w := by
  go_enter Try.func14, Try.ntmps14
  go_wp2_with fail
  go_at_call 32
  refine (tmI_t t w ht).mono ?_
  rintro e w2 ⟨rfl, rfl⟩
  go_wp2
  go_ret
  exact ⟨rfl, rfl⟩
theorem taI_f (ak aa : Option Addr) (n m pk pa : Nat) (t : Int) (w : World) (hn : n ≤ 9223372036854775807) (hm : m ≤ 9223372036854775807) (h : ¬ tArg n m t) :
    Calls Try.prog 14 #[.slice ak n pk, .slice aa m pa, .int .i64 t] w fun e w' => e = .returned (.bool false) ∧ w' = w := by
  unfold tArg at h
  by_cases h16 : n = 16
  · subst h16
    by_cases h24 : m ≤ 24
    · have ht : ¬ (0 ≤ t ∧ t ≤ 1000000000000) := by omega
      clear h
      go_enter Try.func14, Try.ntmps14
      go_wp2_with fail
      go_at_call 32
      refine (tmI_f t w ht).mono ?_
      rintro e w2 ⟨rfl, rfl⟩
      go_wp2
      go_ret
      exact ⟨rfl, rfl⟩
    · clear h
      go_enter Try.func14, Try.ntmps14
      go_wp2
      go_ret
      exact ⟨rfl, rfl⟩
  · have hne : ((n : Int) == 16) = false := by simp; omega
    clear h h16
    go_enter Try.func14, Try.ntmps14
    go_wp2
    go_ret
    exact ⟨rfl, rfl⟩
/-- What a token's body is. -/
def tokB (t : Int) (os : List Int) : List Int := be t 8 ++ os
theorem tokB_length (t : Int) (os : List Int) : (tokB t os).length = 8 + os.length := by unfold tokB; rw [List.length_append, be_length]
set_option maxHeartbeats 2000000 in
theorem tmkS_bad (ak aa ao : Option Addr) (n m l pk pa po : Nat) (t : Int) (w : World) (hn : n ≤ 9223372036854775807) (hm : m ≤ 9223372036854775807) (hl : l ≤ 9223372036854775807) (h : ¬ (tArg n m t ∧ l ≤ 8)) :
    Calls Try.prog 6 #[.slice ak n pk, .slice aa m pa, .int .i64 t, .slice ao l po] w fun e w' => ∃ r, e = .returned (.tuple #[r, .int .i64 1]) ∧ w'.ownsRow w.heap.size 5 1 r 0 (([] : List Int).map (Value.int .u8)) ∧ Below w.heap.size w w' := by
  by_cases ha : tArg n m t
  · have h8 : ¬ l ≤ 8 := fun q => h ⟨ha, q⟩
    have h8' : 8 < l := by omega
    clear h h8
    unfold tArg at ha
    obtain ⟨e16, h24, ht⟩ := ha
    subst e16
    have HT : Hid _ := And.intro ht True.intro
    clear ht
    go_enter Try.func6, Try.ntmps6
    go_wp2_with fail
    go_at_call 19
    refine (taS_t ak aa m pk pa t w h24 HT.out.1).mono ?_
    rintro e w2 ⟨rfl, rfl⟩
    go_wp2
    go_ret2
    exact ⟨_, rfl, World.ownsRow_lit _ #[] 0 (Nat.le_refl _) (by decide) rfl, (Below.refl _ _).alloc (Nat.le_refl _) _⟩
  · have HA : Hid _ := And.intro ha True.intro
    clear h ha
    go_enter Try.func6, Try.ntmps6
    go_wp2_with fail
    go_at_call 19
    refine (taS_f ak aa n m pk pa t w hn hm HA.out.1).mono ?_
    rintro e w2 ⟨rfl, rfl⟩
    go_wp2
    go_ret2
    exact ⟨_, rfl, World.ownsRow_lit _ #[] 0 (Nat.le_refl _) (by decide) rfl, (Below.refl _ _).alloc (Nat.le_refl _) _⟩
set_option maxHeartbeats 2000000 in
theorem tmkI_bad (ak aa ao : Option Addr) (n m l pk pa po : Nat) (t : Int) (os : List Int) (w : World) (hn : n ≤ 9223372036854775807) (hm : m ≤ 9223372036854775807) (hl : l ≤ 9223372036854775807) (h : ¬ (tArg n m t ∧ l ≤ 8))
    (hr : Row w .u8 (.slice ao l po) os) (el : os.length = l) :
    Calls Try.prog 5 #[.slice ak n pk, .slice aa m pa, .int .i64 t, .slice ao l po] w fun e w' => ∃ r, e = .returned (.tuple #[r, .int .i64 1]) ∧ w'.ownsRow w.heap.size 5 1 r 0 (([] : List Int).map (Value.int .u8)) ∧ Below w.heap.size w w' := by
  have HR : Hid _ := And.intro hr el
  clear hr el
  by_cases ha : tArg n m t
  · have h8 : ¬ l ≤ 8 := fun q => h ⟨ha, q⟩
    have h8' : 8 < l := by omega
    clear h h8
    unfold tArg at ha
    obtain ⟨e16, h24, ht⟩ := ha
    subst e16
    have HT : Hid _ := And.intro ht True.intro
    clear ht
    go_enter Try.func5, Try.ntmps5
    go_wp2_with fail
    go_at_call 14
    refine (taI_t ak aa m pk pa t w h24 HT.out.1).mono ?_
    rintro e w2 ⟨rfl, rfl⟩
    go_wp2_with fail
    go_at_call 15
    refine (icids _ [os] _ (parts1 HR.out.1 _) (by simp) (cids1_len os (by rw [HR.out.2]; exact hl))).mono ?_
    rw [cids1 l os HR.out.2, decide_eq_false (by omega)]
    rintro e w' ⟨rfl, hw⟩
    subst w'
    go_wp2
    go_ret2
    exact ⟨_, rfl, World.ownsRow_nil _ _ _ _, (Below.refl _ _).alloc (Nat.le_refl _) _⟩
  · have HA : Hid _ := And.intro ha True.intro
    clear h ha
    go_enter Try.func5, Try.ntmps5
    go_wp2_with fail
    go_at_call 14
    refine (taI_f ak aa n m pk pa t w hn hm HA.out.1).mono ?_
    rintro e w2 ⟨rfl, rfl⟩
    go_wp2
    go_ret2
    exact ⟨_, rfl, World.ownsRow_nil _ _ _ _, Below.refl _ _⟩
end Go.Proofs.Ytkpmdcmgcdnpfaa

namespace Go.Proofs.Ytkpmdcmgcdnpfaa
open Go.RowKit
set_option linter.unusedVariables false

/-- A token. -/
def tokM (ks ads : List Int) (t : Int) (os : List Int) : List Int := sealV (keysV ks) 0 ads (tokB t os)
theorem tokM_length (ks ads : List Int) (t : Int) (os : List Int) : (tokM ks ads t os).length = 16 + os.length := by unfold tokM; rw [sealV_length, tokB_length]; omega
theorem tokB_bytes (t : Int) (os : List Int) (h : Bytes os) : Bytes (tokB t os) := bytes_append (be_bytes _ _) h
theorem own_formT {w : World} {base e s n : Nat} {v : Value} {xs : List Value} (h : w.ownsRow base e s v n xs) : ∃ a c, v = .slice a n c := by
  rcases h.2 with ⟨rfl, rfl⟩ | ⟨g, c, cur, rfl, _⟩
  · exact ⟨_, _, rfl⟩
  · exact ⟨_, _, rfl⟩
set_option maxRecDepth 20000 in
set_option maxHeartbeats 4000000 in
theorem tmkS_ok (ak aa ao : Option Addr) (m l pk pa po : Nat) (t : Int) (ks ads os : List Int) (w : World) (h24 : m ≤ 24) (ht : 0 ≤ t ∧ t ≤ 1000000000000) (h8 : l ≤ 8)
    (hk : Row w .u8 (.slice ak 16 pk) ks) (ha : Row w .u8 (.slice aa m pa) ads) (ho : Row w .u8 (.slice ao l po) os) (lk : ks.length = 16) (la : ads.length = m) (lo : os.length = l) (bk : Bytes ks) (ba : Bytes ads) (bo : Bytes os) :
    Calls Try.prog 6 #[.slice ak 16 pk, .slice aa m pa, .int .i64 t, .slice ao l po] w fun e w' => ∃ r, e = .returned (.tuple #[r, .int .i64 0]) ∧ w'.ownsRow w.heap.size 5 1 r (tokM ks ads t os).length ((tokM ks ads t os).map (Value.int .u8)) ∧ Below w.heap.size w w' := by
  have HT : Hid _ := And.intro ht True.intro
  have HR : Hid _ := And.intro hk (And.intro ha ho)
  have HL : Hid _ := And.intro lk (And.intro la lo)
  have HB : Hid _ := And.intro bk (And.intro ba bo)
  clear ht hk ha ho lk la lo bk ba bo
  go_enter Try.func6, Try.ntmps6
  go_wp2_with fail
  go_at_call 19
  refine (taS_t ak aa m pk pa t w h24 HT.out.1).mono ?_
  rintro e w2 ⟨rfl, rfl⟩
  go_wp2_with fail
  go_at_call 21
  refine (specKeysOf _ ks _ HR.out.1 HB.out.1 (by rw [HL.out.1]; decide)).mono ?_
  rintro e w1 ⟨vk, rfl, ok, b1⟩
  have H1 : Hid _ := And.intro ok b1
  have z1 : w2.heap.size ≤ w1.heap.size := b1.size
  clear ok b1
  go_wp2_with fail
  go_at_call 22
  refine (digits 8 t w1 HT.out.1.1 (by have := HT.out.1.2; omega) (by decide)).mono ?_
  rintro e w3 ⟨vd, rfl, od, b3⟩
  obtain ⟨gd, pd, rfl, gd0, gd1⟩ := owns_shape od (by decide)
  have H3 : Hid _ := And.intro od (And.intro b3 (H1.out.2.trans (b3.mono H1.out.2.size)))
  have z3 : w1.heap.size ≤ w3.heap.size := b3.size
  clear od b3
  go_wp2_with (first
    | (at_builtin; refine wpList_append_row rfl (.tmp 25) (.tmp 26) rfl w1.heap.size _ 8 (be t 8) rfl H3.out.1 (.slice ao l po) os rfl (HR.out.2.2.below H3.out.2.2) (by have := HL.out.2.2; omega) (by omega) ?_; intro q5 w5 o5 g5; have H5 : Hid _ := And.intro o5 (H3.out.2.1.grown g5 H3.out.2.1.size (by intro k hk; cases hk; omega)); have F5 := own_formT o5; obtain ⟨a5, c5, f5⟩ := F5; rw [HL.out.2.2] at f5; subst f5; clear o5 g5))
  go_at_call 20
  have K5 := KOwns.row (KOwns.below H1.out.1 H5.out.2)
  have B5 := H1.out.2.trans (H5.out.2.mono H1.out.2.size)
  have R5 := row_of_owns H5.out.1
  have A5 := HR.out.2.1.below B5
  have T5 := seal_ok vk aa a5 pa c5 (keysV ks) 0 ads (tokB t os) w5 K5 (keysV_bytes ks HB.out.1) (keysV_kok ks HL.out.1) (by decide) (by decide) (by rw [tokB_length, HL.out.2.1, HL.out.2.2]; omega) (by rw [HL.out.2.1]; exact A5) (by rw [tokB_length, HL.out.2.2]; exact R5) HB.out.2.1 (tokB_bytes t os HB.out.2.2)
  rw [HL.out.2.1, tokB_length, HL.out.2.2] at T5
  refine T5.mono ?_
  rintro e w6 ⟨r6, rfl, o6, b6⟩
  have H6 : Hid _ := And.intro (owns_mono o6 B5.size) (B5.trans (b6.mono B5.size))
  clear K5 B5 R5 A5 T5 o6 b6
  go_wp2
  go_ret2
  exact ⟨_, rfl, H6.out.1, H6.out.2⟩
set_option maxRecDepth 20000 in
set_option maxHeartbeats 4000000 in
theorem tmkI_ok (ak aa ao : Option Addr) (m l pk pa po : Nat) (t : Int) (ks ads os : List Int) (w : World) (h24 : m ≤ 24) (ht : 0 ≤ t ∧ t ≤ 1000000000000) (h8 : l ≤ 8)
    (hk : Row w .u8 (.slice ak 16 pk) ks) (ha : Row w .u8 (.slice aa m pa) ads) (ho : Row w .u8 (.slice ao l po) os) (lk : ks.length = 16) (la : ads.length = m) (lo : os.length = l) (bk : Bytes ks) (ba : Bytes ads) (bo : Bytes os) :
    Calls Try.prog 5 #[.slice ak 16 pk, .slice aa m pa, .int .i64 t, .slice ao l po] w fun e w' => ∃ r, e = .returned (.tuple #[r, .int .i64 0]) ∧ w'.ownsRow w.heap.size 5 1 r (tokM ks ads t os).length ((tokM ks ads t os).map (Value.int .u8)) ∧ Below w.heap.size w w' := by
  have HT : Hid _ := And.intro ht True.intro
  have HR : Hid _ := And.intro hk (And.intro ha ho)
  have HL : Hid _ := And.intro lk (And.intro la lo)
  have HB : Hid _ := And.intro bk (And.intro ba bo)
  clear ht hk ha ho lk la lo bk ba bo
  go_enter Try.func5, Try.ntmps5
  go_wp2_with fail
  go_at_call 14
  refine (taI_t ak aa m pk pa t w h24 HT.out.1).mono ?_
  rintro e w2 ⟨rfl, rfl⟩
  go_wp2_with fail
  go_at_call 15
  refine (icids _ [os] _ (parts1 HR.out.2.2 _) (by simp) (cids1_len os (by rw [HL.out.2.2]; omega))).mono ?_
  rw [cids1 l os HL.out.2.2, decide_eq_true h8]
  rintro e w' ⟨rfl, hw⟩
  subst w'
  have B0 : Below w2.heap.size w2 (w2.alloc (.cells #[.slice ao l po] 22)) := (Below.refl _ _).alloc (Nat.le_refl _) _
  have HW : Hid (∃ w0 : World, w0 = w2.alloc (.cells #[.slice ao l po] 22)) := ⟨_, rfl⟩
  obtain ⟨w0, ew0⟩ := HW.out
  rw [← ew0] at B0 ⊢
  have H0 : Hid _ := And.intro B0 True.intro
  have z0 : w2.heap.size ≤ w0.heap.size := B0.size
  clear B0 ew0 HW
  go_wp2_with fail
  go_at_call 17
  refine (implKeysOf _ ks _ (HR.out.1.below H0.out.1) HB.out.1 (by rw [HL.out.1]; decide)).mono ?_
  rintro e w1 ⟨vk, rfl, ok, b1⟩
  have H1 : Hid _ := And.intro ok (H0.out.1.trans (b1.mono H0.out.1.size))
  have z1 : w2.heap.size ≤ w1.heap.size := H1.out.2.size
  clear ok b1
  go_wp2_with fail
  go_at_call 18
  rw [show IntKind.u64.wrap t = t by rw [IntKind.wrap_u64]; have := HT.out.1; omega]
  refine (high t 8 w1 HT.out.1.1 (by have := HT.out.1.2; omega) (by decide)).mono ?_
  rintro e w3 ⟨vd, rfl, od, b3⟩
  obtain ⟨gd, pd, rfl, gd0, gd1⟩ := owns_shape od (by decide)
  have H3 : Hid _ := And.intro od (And.intro b3 (H1.out.2.trans (b3.mono H1.out.2.size)))
  have z3 : w1.heap.size ≤ w3.heap.size := b3.size
  clear od b3
  go_wp2_with (first
    | (at_builtin; refine wpList_append_row rfl (.tmp 26) (.tmp 27) rfl w1.heap.size _ 8 (be t 8) rfl H3.out.1 (.slice ao l po) os rfl (HR.out.2.2.below H3.out.2.2) (by have := HL.out.2.2; omega) (by omega) ?_; intro q5 w5 o5 g5; have H5 : Hid _ := And.intro o5 (H3.out.2.1.grown g5 H3.out.2.1.size (by intro k hk; cases hk; omega)); have F5 := own_formT o5; obtain ⟨a5, c5, f5⟩ := F5; rw [HL.out.2.2] at f5; subst f5; clear o5 g5))
  go_at_call 16
  have K5 := KOwns.row (KOwns.below H1.out.1 H5.out.2)
  have B5 := H1.out.2.trans (H5.out.2.mono H1.out.2.size)
  have R5 := row_of_owns H5.out.1
  have A5 := HR.out.2.1.below B5
  have T5 := iseal_ok vk aa a5 pa c5 (keysV ks) 0 ads (tokB t os) w5 K5 (keysV_bytes ks HB.out.1) (keysV_kok ks HL.out.1) (by decide) (by decide) (by rw [tokB_length, HL.out.2.1, HL.out.2.2]; omega) (by rw [HL.out.2.1]; exact A5) (by rw [tokB_length, HL.out.2.2]; exact R5) HB.out.2.1 (tokB_bytes t os HB.out.2.2)
  rw [HL.out.2.1, tokB_length, HL.out.2.2] at T5
  refine T5.mono ?_
  rintro e w6 ⟨r6, rfl, o6, b6⟩
  have H6 : Hid _ := And.intro (owns_mono o6 B5.size) (B5.trans (b6.mono B5.size))
  clear K5 B5 R5 A5 T5 o6 b6
  go_wp2
  go_ret2
  exact ⟨_, rfl, H6.out.1, H6.out.2⟩
end Go.Proofs.Ytkpmdcmgcdnpfaa

namespace Go.Proofs.Ytkpmdcmgcdnpfaa
open Go.RowKit
set_option linter.unusedVariables false

theorem copyT (v : Value) (xs : List Int) (w : World) (h : Row w .u8 v xs) (h1 : xs.length ≤ 65536) :
    Calls Try.prog 27 #[v] w fun e w' => ∃ r, e = .returned r ∧ w'.ownsRow w.heap.size 5 1 r xs.length (xs.map (Value.int .u8)) ∧ Below w.heap.size w w' := by
  obtain ⟨ao, cap, rfl⟩ := h.form
  have B0 : Below w.heap.size w (w.alloc (.cells #[] 5)) := (Below.refl _ _).alloc (Nat.le_refl _) _
  have hlit : (w.alloc (.cells #[] 5)).ownsRow w.heap.size 5 1 (.slice (some ⟨w.heap.size, 0, none⟩) 0 0) 0 (([] : List Int).map (Value.int .u8)) := World.ownsRow_lit w #[] 0 (Nat.le_refl _) (by decide) rfl
  have hr := h.below B0
  obtain ⟨m, hm⟩ : ∃ m, m = xs.length := ⟨_, rfl⟩
  have HH : Hid _ := And.intro B0 (And.intro hlit (And.intro hr (And.intro hm h1)))
  rw [← hm]
  clear B0 hlit hr hm h1 h
  go_enter Try.func27, Try.ntmps27
  go_wp2_with (at_builtin; refine wpList_append_row rfl _ _ rfl w.heap.size (.slice (some ⟨w.heap.size, 0, none⟩) 0 0) 0 [] rfl HH.out.2.1 (.slice ao m cap) xs rfl (by rw [HH.out.2.2.2.1]; exact HH.out.2.2.1) (by have := HH.out.2.2.2.2; omega) (by simp) ?_; intro v1 w1 o1 g1)
  rw [← HH.out.2.2.2.1, Nat.zero_add, List.nil_append] at o1
  have hb : Below w.heap.size w w1 := HH.out.1.grown g1 (by simp) (fun j hj => (HH.out.2.1.lt j hj).1)
  have HF : Hid _ := And.intro o1 hb
  clear o1 g1 hb
  go_wp2_with fail
  go_ret
  exact ⟨v1, rfl, HF.out.1, HF.out.2⟩
theorem tcS_args (ak aa ao : Option Addr) (n m l pk pa po : Nat) (t : Int) (w : World) (hn : n ≤ 9223372036854775807) (hm : m ≤ 9223372036854775807) (h : ¬ tArg n m t) :
    Calls Try.prog 11 #[.slice ak n pk, .slice aa m pa, .int .i64 t, .slice ao l po] w fun e w' => ∃ r, e = .returned (.tuple #[r, .int .i64 1]) ∧ w'.ownsRow w.heap.size 5 1 r 0 (([] : List Int).map (Value.int .u8)) ∧ Below w.heap.size w w' := by
  have HA : Hid _ := And.intro h True.intro
  clear h
  go_enter Try.func11, Try.ntmps11
  go_wp2_with fail
  go_at_call 19
  refine (taS_f ak aa n m pk pa t w hn hm HA.out.1).mono ?_
  rintro e w2 ⟨rfl, rfl⟩
  go_wp2
  go_ret2
  exact ⟨_, rfl, World.ownsRow_lit _ #[] 0 (Nat.le_refl _) (by decide) rfl, (Below.refl _ _).alloc (Nat.le_refl _) _⟩
/-- The cells of a row of one's own. -/
theorem tcell {w : World} {base g n p : Nat} {B : List Int} (h : w.ownsRow base 5 1 (.slice (some ⟨g, 0, none⟩) n p) n (B.map (Value.int .u8))) (j : Nat) (hj : j < n) : w.cell? ⟨g, j, none⟩ = some (.int .u8 (B.getD j 0)) := by
  have hl : B.length = n := by simpa using h.1
  rw [h.cellAt j (by omega), List.getElem?_map, List.getElem?_eq_getElem (by omega)]
  simp [List.getD, show j < B.length by omega]
theorem tdrop {w : World} {base g q p : Nat} {B : List Int} (h : w.ownsRow base 5 1 (.slice (some ⟨g, 0, none⟩) (8 + q) p) (8 + q) (B.map (Value.int .u8))) : Row w .u8 (.slice (some ⟨g, 8, none⟩) q (p - 8)) (B.drop 8) := by
  have hl : B.length = 8 + q := by simpa using h.1
  have hp : 8 + q ≤ p ∧ p ≤ maxLen := by
    rcases h.2 with ⟨e, _⟩ | ⟨g', cap', cur, e, _, _, h1, h2, _⟩
    · cases e
    · cases e; exact ⟨h1, h2⟩
  have := row_cut (w := w) (k := .u8) (xs := B) (b := g) (off := 0) (cap := 0) (at' := 8) (n := q) (cap' := p - 8) (h.lt g rfl).2 (fun j hj => by rw [Nat.zero_add]; exact tcell h j (by omega)) (by omega) ⟨by omega, by omega⟩
  rw [Nat.zero_add, List.take_of_length_le (by rw [List.length_drop]; omega)] at this
  exact this
theorem tdrop0 {w : World} {base g q p : Nat} {B : List Int} (h : w.ownsRow base 5 1 (.slice (some ⟨g, 0, none⟩) (8 + q) p) (8 + q) (B.map (Value.int .u8))) (hq : q = 0) : Row w .u8 (.slice (some ⟨g, 0, none⟩) q 0) (B.drop 8) := by
  subst hq
  have hl : B.length = 8 := by simpa using h.1
  rw [List.drop_eq_nil_of_le (by omega)]
  exact Or.inr ⟨g, 0, 0, rfl, (h.lt g rfl).2, ⟨Nat.le_refl _, by decide⟩, fun j hj => by simp at hj⟩
theorem owns0 {w : World} {base g n p : Nat} {xs : List Value} (h : w.ownsRow base 5 1 (.slice (some ⟨g, 0, none⟩) n p) n xs) : w.ownsRow base 5 1 (.slice (some ⟨g, 0, none⟩) 0 p) 0 (([] : List Int).map (Value.int .u8)) := by
  rcases h.2 with ⟨e, _⟩ | ⟨g', cap', cur, e, h0, h1, h2, h3, h4, _⟩
  · cases e
  · cases e
    exact ⟨rfl, Or.inr ⟨g, p, cur, rfl, h0, h1, Nat.zero_le _, h3, h4, rfl⟩⟩
set_option maxRecDepth 20000 in
set_option maxHeartbeats 2000000 in
theorem tcS_code (ak aa ao : Option Addr) (m l pk pa po n : Nat) (t : Int) (ks ads xs B : List Int) (c : Int) (w : World) (h24 : m ≤ 24) (ht : 0 ≤ t ∧ t ≤ 1000000000000)
    (hk : Row w .u8 (.slice ak 16 pk) ks) (ha : Row w .u8 (.slice aa m pa) ads) (ho : Row w .u8 (.slice ao l po) xs) (lk : ks.length = 16) (bk : Bytes ks)
    (hO : ∀ (w : World) (uk : Value), KRow w uk (keysV ks) → Row w .u8 (.slice aa m pa) ads → Row w .u8 (.slice ao l po) xs → Calls Try.prog 25 #[uk, .int .i64 0, .slice aa m pa, .slice ao l po] w fun e w' => ∃ r, e = .returned (.tuple #[r, .int .i64 c]) ∧ w'.ownsRow w.heap.size 5 1 r (n) (B.map (Value.int .u8)) ∧ Below w.heap.size w w')
    (hn : n ≤ 1508) (hc : (c != 0) = true) :
    Calls Try.prog 11 #[.slice ak 16 pk, .slice aa m pa, .int .i64 t, .slice ao l po] w fun e w' => ∃ r, e = .returned (.tuple #[r, .int .i64 13]) ∧ w'.ownsRow w.heap.size 5 1 r 0 ((([] : List Int)).map (Value.int .u8)) ∧ Below w.heap.size w w' := by
  have HT : Hid _ := And.intro ht True.intro
  have HR : Hid _ := And.intro hk (And.intro ha ho)
  have HL : Hid _ := And.intro lk (And.intro bk True.intro)
  have HO : Hid _ := And.intro hO True.intro
  skip
  clear ht hk ha ho lk bk hO
  go_enter Try.func11, Try.ntmps11
  go_wp2_with fail
  go_at_call 19
  refine (taS_t ak aa m pk pa t w h24 HT.out.1).mono ?_
  rintro e w2 ⟨rfl, rfl⟩
  go_wp2_with fail
  go_at_call 21
  refine (specKeysOf _ ks _ HR.out.1 HL.out.2.1 (by rw [HL.out.1]; decide)).mono ?_
  rintro e w1 ⟨vk, rfl, ok, b1⟩
  have H1 : Hid _ := And.intro ok b1
  have z1 : w2.heap.size ≤ w1.heap.size := b1.size
  clear ok b1
  go_wp2_with fail
  go_at_call 25
  refine (HO.out.1 _ _ (KOwns.row H1.out.1) (HR.out.2.1.below H1.out.2) (HR.out.2.2.below H1.out.2)).mono ?_
  rintro e w3 ⟨vb, rfl, ob, b3⟩
  obtain ⟨ab, cb, f⟩ := own_formT ob
  subst f
  have H3 : Hid _ := And.intro ob (H1.out.2.trans (b3.mono H1.out.2.size))
  have z3 : w2.heap.size ≤ w3.heap.size := H3.out.2.size
  clear ob b3
  go_wp2
  go_ret2
  exact ⟨_, rfl, World.ownsRow_lit _ #[] 0 H3.out.2.size (by decide) rfl, H3.out.2.alloc H3.out.2.size _⟩
set_option maxRecDepth 20000 in
set_option maxHeartbeats 2000000 in
theorem tcS_short (ak aa ao : Option Addr) (m l pk pa po n : Nat) (t : Int) (ks ads xs B : List Int) (w : World) (h24 : m ≤ 24) (ht : 0 ≤ t ∧ t ≤ 1000000000000)
    (hk : Row w .u8 (.slice ak 16 pk) ks) (ha : Row w .u8 (.slice aa m pa) ads) (ho : Row w .u8 (.slice ao l po) xs) (lk : ks.length = 16) (bk : Bytes ks)
    (hO : ∀ (w : World) (uk : Value), KRow w uk (keysV ks) → Row w .u8 (.slice aa m pa) ads → Row w .u8 (.slice ao l po) xs → Calls Try.prog 25 #[uk, .int .i64 0, .slice aa m pa, .slice ao l po] w fun e w' => ∃ r, e = .returned (.tuple #[r, .int .i64 0]) ∧ w'.ownsRow w.heap.size 5 1 r (n) (B.map (Value.int .u8)) ∧ Below w.heap.size w w')
    (hn : n < 8) :
    Calls Try.prog 11 #[.slice ak 16 pk, .slice aa m pa, .int .i64 t, .slice ao l po] w fun e w' => ∃ r, e = .returned (.tuple #[r, .int .i64 13]) ∧ w'.ownsRow w.heap.size 5 1 r 0 ((([] : List Int)).map (Value.int .u8)) ∧ Below w.heap.size w w' := by
  have HT : Hid _ := And.intro ht True.intro
  have HR : Hid _ := And.intro hk (And.intro ha ho)
  have HL : Hid _ := And.intro lk (And.intro bk True.intro)
  have HO : Hid _ := And.intro hO True.intro
  skip
  clear ht hk ha ho lk bk hO
  go_enter Try.func11, Try.ntmps11
  go_wp2_with fail
  go_at_call 19
  refine (taS_t ak aa m pk pa t w h24 HT.out.1).mono ?_
  rintro e w2 ⟨rfl, rfl⟩
  go_wp2_with fail
  go_at_call 21
  refine (specKeysOf _ ks _ HR.out.1 HL.out.2.1 (by rw [HL.out.1]; decide)).mono ?_
  rintro e w1 ⟨vk, rfl, ok, b1⟩
  have H1 : Hid _ := And.intro ok b1
  have z1 : w2.heap.size ≤ w1.heap.size := b1.size
  clear ok b1
  go_wp2_with fail
  go_at_call 25
  refine (HO.out.1 _ _ (KOwns.row H1.out.1) (HR.out.2.1.below H1.out.2) (HR.out.2.2.below H1.out.2)).mono ?_
  rintro e w3 ⟨vb, rfl, ob, b3⟩
  obtain ⟨ab, cb, f⟩ := own_formT ob
  subst f
  have H3 : Hid _ := And.intro ob (H1.out.2.trans (b3.mono H1.out.2.size))
  have z3 : w2.heap.size ≤ w3.heap.size := H3.out.2.size
  clear ob b3
  go_wp2
  go_ret2
  exact ⟨_, rfl, World.ownsRow_lit _ #[] 0 H3.out.2.size (by decide) rfl, H3.out.2.alloc H3.out.2.size _⟩
set_option maxRecDepth 20000 in
set_option maxHeartbeats 2000000 in
theorem tcS_long (ak aa ao : Option Addr) (m l pk pa po n : Nat) (t : Int) (ks ads xs B : List Int) (w : World) (h24 : m ≤ 24) (ht : 0 ≤ t ∧ t ≤ 1000000000000)
    (hk : Row w .u8 (.slice ak 16 pk) ks) (ha : Row w .u8 (.slice aa m pa) ads) (ho : Row w .u8 (.slice ao l po) xs) (lk : ks.length = 16) (bk : Bytes ks)
    (hO : ∀ (w : World) (uk : Value), KRow w uk (keysV ks) → Row w .u8 (.slice aa m pa) ads → Row w .u8 (.slice ao l po) xs → Calls Try.prog 25 #[uk, .int .i64 0, .slice aa m pa, .slice ao l po] w fun e w' => ∃ r, e = .returned (.tuple #[r, .int .i64 0]) ∧ w'.ownsRow w.heap.size 5 1 r (n) (B.map (Value.int .u8)) ∧ Below w.heap.size w w')
    (hn : 16 < n) (hx : n ≤ 1508) :
    Calls Try.prog 11 #[.slice ak 16 pk, .slice aa m pa, .int .i64 t, .slice ao l po] w fun e w' => ∃ r, e = .returned (.tuple #[r, .int .i64 13]) ∧ w'.ownsRow w.heap.size 5 1 r 0 ((([] : List Int)).map (Value.int .u8)) ∧ Below w.heap.size w w' := by
  have HT : Hid _ := And.intro ht True.intro
  have HR : Hid _ := And.intro hk (And.intro ha ho)
  have HL : Hid _ := And.intro lk (And.intro bk True.intro)
  have HO : Hid _ := And.intro hO True.intro
  skip
  clear ht hk ha ho lk bk hO
  go_enter Try.func11, Try.ntmps11
  go_wp2_with fail
  go_at_call 19
  refine (taS_t ak aa m pk pa t w h24 HT.out.1).mono ?_
  rintro e w2 ⟨rfl, rfl⟩
  go_wp2_with fail
  go_at_call 21
  refine (specKeysOf _ ks _ HR.out.1 HL.out.2.1 (by rw [HL.out.1]; decide)).mono ?_
  rintro e w1 ⟨vk, rfl, ok, b1⟩
  have H1 : Hid _ := And.intro ok b1
  have z1 : w2.heap.size ≤ w1.heap.size := b1.size
  clear ok b1
  go_wp2_with fail
  go_at_call 25
  refine (HO.out.1 _ _ (KOwns.row H1.out.1) (HR.out.2.1.below H1.out.2) (HR.out.2.2.below H1.out.2)).mono ?_
  rintro e w3 ⟨vb, rfl, ob, b3⟩
  obtain ⟨ab, cb, f⟩ := own_formT ob
  subst f
  have H3 : Hid _ := And.intro ob (H1.out.2.trans (b3.mono H1.out.2.size))
  have z3 : w2.heap.size ≤ w3.heap.size := H3.out.2.size
  clear ob b3
  go_wp2
  go_ret2
  exact ⟨_, rfl, World.ownsRow_lit _ #[] 0 H3.out.2.size (by decide) rfl, H3.out.2.alloc H3.out.2.size _⟩
set_option maxRecDepth 20000 in
set_option maxHeartbeats 2000000 in
theorem tcS_high (ak aa ao : Option Addr) (m l pk pa po q : Nat) (t : Int) (ks ads xs B : List Int) (w : World) (h24 : m ≤ 24) (ht : 0 ≤ t ∧ t ≤ 1000000000000)
    (hk : Row w .u8 (.slice ak 16 pk) ks) (ha : Row w .u8 (.slice aa m pa) ads) (ho : Row w .u8 (.slice ao l po) xs) (lk : ks.length = 16) (bk : Bytes ks)
    (hO : ∀ (w : World) (uk : Value), KRow w uk (keysV ks) → Row w .u8 (.slice aa m pa) ads → Row w .u8 (.slice ao l po) xs → Calls Try.prog 25 #[uk, .int .i64 0, .slice aa m pa, .slice ao l po] w fun e w' => ∃ r, e = .returned (.tuple #[r, .int .i64 0]) ∧ w'.ownsRow w.heap.size 5 1 r (8 + q) (B.map (Value.int .u8)) ∧ Below w.heap.size w w')
    (hq : q ≤ 8) (hb : 128 ≤ B.getD 0 0 ∧ B.getD 0 0 < 256) :
    Calls Try.prog 11 #[.slice ak 16 pk, .slice aa m pa, .int .i64 t, .slice ao l po] w fun e w' => ∃ r, e = .returned (.tuple #[r, .int .i64 13]) ∧ w'.ownsRow w.heap.size 5 1 r 0 ((([] : List Int)).map (Value.int .u8)) ∧ Below w.heap.size w w' := by
  have HT : Hid _ := And.intro ht True.intro
  have HR : Hid _ := And.intro hk (And.intro ha ho)
  have HL : Hid _ := And.intro lk (And.intro bk True.intro)
  have HO : Hid _ := And.intro hO True.intro
  obtain ⟨x, ex⟩ : ∃ x, x = B.getD 0 0 := ⟨_, rfl⟩
  rw [← ex] at hb
  have HX : Hid _ := And.intro ex True.intro
  clear ex
  clear ht hk ha ho lk bk hO
  go_enter Try.func11, Try.ntmps11
  go_wp2_with fail
  go_at_call 19
  refine (taS_t ak aa m pk pa t w h24 HT.out.1).mono ?_
  rintro e w2 ⟨rfl, rfl⟩
  go_wp2_with fail
  go_at_call 21
  refine (specKeysOf _ ks _ HR.out.1 HL.out.2.1 (by rw [HL.out.1]; decide)).mono ?_
  rintro e w1 ⟨vk, rfl, ok, b1⟩
  have H1 : Hid _ := And.intro ok b1
  have z1 : w2.heap.size ≤ w1.heap.size := b1.size
  clear ok b1
  go_wp2_with fail
  go_at_call 25
  refine (HO.out.1 _ _ (KOwns.row H1.out.1) (HR.out.2.1.below H1.out.2) (HR.out.2.2.below H1.out.2)).mono ?_
  rintro e w3 ⟨vb, rfl, ob, b3⟩
  obtain ⟨g, p, f, g0, g1⟩ := owns_shape ob (by omega)
  subst f
  obtain ⟨p1, p2⟩ := hm_cap ob
  have H3 : Hid _ := And.intro ob (H1.out.2.trans (b3.mono H1.out.2.size))
  have z3 : w2.heap.size ≤ w3.heap.size := H3.out.2.size
  have c0 := tcell ob 0 (by omega)
  rw [← HX.out.1] at c0
  clear ob b3
  go_wp2
  go_ret2
  exact ⟨_, rfl, World.ownsRow_lit _ #[] 0 H3.out.2.size (by decide) rfl, H3.out.2.alloc H3.out.2.size _⟩
set_option maxRecDepth 20000 in
set_option maxHeartbeats 2000000 in
theorem tcS_early (ak aa ao : Option Addr) (m l pk pa po q : Nat) (t : Int) (ks ads xs B : List Int) (w : World) (h24 : m ≤ 24) (ht : 0 ≤ t ∧ t ≤ 1000000000000)
    (hk : Row w .u8 (.slice ak 16 pk) ks) (ha : Row w .u8 (.slice aa m pa) ads) (ho : Row w .u8 (.slice ao l po) xs) (lk : ks.length = 16) (bk : Bytes ks)
    (hO : ∀ (w : World) (uk : Value), KRow w uk (keysV ks) → Row w .u8 (.slice aa m pa) ads → Row w .u8 (.slice ao l po) xs → Calls Try.prog 25 #[uk, .int .i64 0, .slice aa m pa, .slice ao l po] w fun e w' => ∃ r, e = .returned (.tuple #[r, .int .i64 0]) ∧ w'.ownsRow w.heap.size 5 1 r (8 + q) (B.map (Value.int .u8)) ∧ Below w.heap.size w w')
    (lB : B.length = 8 + q) (bB : Bytes B) (hq : q ≤ 8) (hb : 0 ≤ B.getD 0 0 ∧ B.getD 0 0 < 128) (hv : t < vals (B.take 8) ∧ vals (B.take 8) ≤ 9223372036854775807) :
    Calls Try.prog 11 #[.slice ak 16 pk, .slice aa m pa, .int .i64 t, .slice ao l po] w fun e w' => ∃ r, e = .returned (.tuple #[r, .int .i64 13]) ∧ w'.ownsRow w.heap.size 5 1 r 0 ((([] : List Int)).map (Value.int .u8)) ∧ Below w.heap.size w w' := by
  have HT : Hid _ := And.intro ht True.intro
  have HR : Hid _ := And.intro hk (And.intro ha ho)
  have HL : Hid _ := And.intro lk (And.intro bk True.intro)
  have HO : Hid _ := And.intro hO True.intro
  obtain ⟨x, ex⟩ : ∃ x, x = B.getD 0 0 := ⟨_, rfl⟩
  rw [← ex] at hb
  have HX : Hid _ := And.intro ex True.intro
  clear ex
  obtain ⟨tt, et⟩ : ∃ tt, tt = vals (B.take 8) := ⟨_, rfl⟩
  have hv0 : 0 ≤ tt := by rw [et]; exact vals_nonneg _ (bB.take 8)
  have VB : Hid _ := And.intro (bB.take 8) (And.intro (show vals (B.take 8) ≤ 9223372036854775807 by rw [← et]; omega) (And.intro lB et))
  rw [← et] at hv
  clear bB lB et
  clear ht hk ha ho lk bk hO
  go_enter Try.func11, Try.ntmps11
  go_wp2_with fail
  go_at_call 19
  refine (taS_t ak aa m pk pa t w h24 HT.out.1).mono ?_
  rintro e w2 ⟨rfl, rfl⟩
  go_wp2_with fail
  go_at_call 21
  refine (specKeysOf _ ks _ HR.out.1 HL.out.2.1 (by rw [HL.out.1]; decide)).mono ?_
  rintro e w1 ⟨vk, rfl, ok, b1⟩
  have H1 : Hid _ := And.intro ok b1
  have z1 : w2.heap.size ≤ w1.heap.size := b1.size
  clear ok b1
  go_wp2_with fail
  go_at_call 25
  refine (HO.out.1 _ _ (KOwns.row H1.out.1) (HR.out.2.1.below H1.out.2) (HR.out.2.2.below H1.out.2)).mono ?_
  rintro e w3 ⟨vb, rfl, ob, b3⟩
  obtain ⟨g, p, f, g0, g1⟩ := owns_shape ob (by omega)
  subst f
  obtain ⟨p1, p2⟩ := hm_cap ob
  have H3 : Hid _ := And.intro ob (H1.out.2.trans (b3.mono H1.out.2.size))
  have z3 : w2.heap.size ≤ w3.heap.size := H3.out.2.size
  have c0 := tcell ob 0 (by omega)
  rw [← HX.out.1] at c0
  clear ob b3
  obtain ⟨w4, ew4⟩ : ∃ w4, w4 = w3 := ⟨_, rfl⟩
  subst ew4
  have H4 : Hid _ := And.intro H3.out.1 H3.out.2
  go_wp2_with fail
  go_at_call 26
  refine (value_core 8 (B.take 8) g 0 p w4 (by decide) (by rw [List.length_take, VB.out.2.2.1] <;> omega) VB.out.1 VB.out.2.1 (fun j hj => by rw [Nat.zero_add, tcell H4.out.1 j (by omega)]; simp [List.getD, hj])).mono ?_
  rw [← VB.out.2.2.2]
  rintro e w5 ⟨rfl, hw⟩
  subst w5
  go_wp2
  go_ret2
  exact ⟨_, rfl, World.ownsRow_lit _ #[] 0 H4.out.2.size (by decide) rfl, H4.out.2.alloc H4.out.2.size _⟩
set_option maxRecDepth 20000 in
set_option maxHeartbeats 2000000 in
theorem tcS_late (ak aa ao : Option Addr) (m l pk pa po q : Nat) (t : Int) (ks ads xs B : List Int) (w : World) (h24 : m ≤ 24) (ht : 0 ≤ t ∧ t ≤ 1000000000000)
    (hk : Row w .u8 (.slice ak 16 pk) ks) (ha : Row w .u8 (.slice aa m pa) ads) (ho : Row w .u8 (.slice ao l po) xs) (lk : ks.length = 16) (bk : Bytes ks)
    (hO : ∀ (w : World) (uk : Value), KRow w uk (keysV ks) → Row w .u8 (.slice aa m pa) ads → Row w .u8 (.slice ao l po) xs → Calls Try.prog 25 #[uk, .int .i64 0, .slice aa m pa, .slice ao l po] w fun e w' => ∃ r, e = .returned (.tuple #[r, .int .i64 0]) ∧ w'.ownsRow w.heap.size 5 1 r (8 + q) (B.map (Value.int .u8)) ∧ Below w.heap.size w w')
    (lB : B.length = 8 + q) (bB : Bytes B) (hq : q ≤ 8) (hb : 0 ≤ B.getD 0 0 ∧ B.getD 0 0 < 128) (hv : vals (B.take 8) ≤ t ∧ 60000000 < t - vals (B.take 8)) :
    Calls Try.prog 11 #[.slice ak 16 pk, .slice aa m pa, .int .i64 t, .slice ao l po] w fun e w' => ∃ r, e = .returned (.tuple #[r, .int .i64 13]) ∧ w'.ownsRow w.heap.size 5 1 r 0 ((([] : List Int)).map (Value.int .u8)) ∧ Below w.heap.size w w' := by
  have HT : Hid _ := And.intro ht True.intro
  have HR : Hid _ := And.intro hk (And.intro ha ho)
  have HL : Hid _ := And.intro lk (And.intro bk True.intro)
  have HO : Hid _ := And.intro hO True.intro
  obtain ⟨x, ex⟩ : ∃ x, x = B.getD 0 0 := ⟨_, rfl⟩
  rw [← ex] at hb
  have HX : Hid _ := And.intro ex True.intro
  clear ex
  obtain ⟨tt, et⟩ : ∃ tt, tt = vals (B.take 8) := ⟨_, rfl⟩
  have hv0 : 0 ≤ tt := by rw [et]; exact vals_nonneg _ (bB.take 8)
  have VB : Hid _ := And.intro (bB.take 8) (And.intro (show vals (B.take 8) ≤ 9223372036854775807 by rw [← et]; rw [← et] at hv; omega) (And.intro lB et))
  rw [← et] at hv
  clear bB lB et
  clear ht hk ha ho lk bk hO
  go_enter Try.func11, Try.ntmps11
  go_wp2_with fail
  go_at_call 19
  refine (taS_t ak aa m pk pa t w h24 HT.out.1).mono ?_
  rintro e w2 ⟨rfl, rfl⟩
  go_wp2_with fail
  go_at_call 21
  refine (specKeysOf _ ks _ HR.out.1 HL.out.2.1 (by rw [HL.out.1]; decide)).mono ?_
  rintro e w1 ⟨vk, rfl, ok, b1⟩
  have H1 : Hid _ := And.intro ok b1
  have z1 : w2.heap.size ≤ w1.heap.size := b1.size
  clear ok b1
  go_wp2_with fail
  go_at_call 25
  refine (HO.out.1 _ _ (KOwns.row H1.out.1) (HR.out.2.1.below H1.out.2) (HR.out.2.2.below H1.out.2)).mono ?_
  rintro e w3 ⟨vb, rfl, ob, b3⟩
  obtain ⟨g, p, f, g0, g1⟩ := owns_shape ob (by omega)
  subst f
  obtain ⟨p1, p2⟩ := hm_cap ob
  have H3 : Hid _ := And.intro ob (H1.out.2.trans (b3.mono H1.out.2.size))
  have z3 : w2.heap.size ≤ w3.heap.size := H3.out.2.size
  have c0 := tcell ob 0 (by omega)
  rw [← HX.out.1] at c0
  clear ob b3
  have ht1 := HT.out.1
  obtain ⟨w4, ew4⟩ : ∃ w4, w4 = w3 := ⟨_, rfl⟩
  subst ew4
  have H4 : Hid _ := And.intro H3.out.1 H3.out.2
  go_wp2_with fail
  go_at_call 26
  refine (value_core 8 (B.take 8) g 0 p w4 (by decide) (by rw [List.length_take, VB.out.2.2.1] <;> omega) VB.out.1 VB.out.2.1 (fun j hj => by rw [Nat.zero_add, tcell H4.out.1 j (by omega)]; simp [List.getD, hj])).mono ?_
  rw [← VB.out.2.2.2]
  rintro e w5 ⟨rfl, hw⟩
  subst w5
  go_wp2
  go_ret2
  exact ⟨_, rfl, World.ownsRow_lit _ #[] 0 H4.out.2.size (by decide) rfl, H4.out.2.alloc H4.out.2.size _⟩
set_option maxRecDepth 20000 in
set_option maxHeartbeats 2000000 in
theorem tcS_ok (ak aa ao : Option Addr) (m l pk pa po q : Nat) (t : Int) (ks ads xs B : List Int) (w : World) (h24 : m ≤ 24) (ht : 0 ≤ t ∧ t ≤ 1000000000000)
    (hk : Row w .u8 (.slice ak 16 pk) ks) (ha : Row w .u8 (.slice aa m pa) ads) (ho : Row w .u8 (.slice ao l po) xs) (lk : ks.length = 16) (bk : Bytes ks)
    (hO : ∀ (w : World) (uk : Value), KRow w uk (keysV ks) → Row w .u8 (.slice aa m pa) ads → Row w .u8 (.slice ao l po) xs → Calls Try.prog 25 #[uk, .int .i64 0, .slice aa m pa, .slice ao l po] w fun e w' => ∃ r, e = .returned (.tuple #[r, .int .i64 0]) ∧ w'.ownsRow w.heap.size 5 1 r (8 + q) (B.map (Value.int .u8)) ∧ Below w.heap.size w w')
    (lB : B.length = 8 + q) (bB : Bytes B) (hq : q ≤ 8) (hb : 0 ≤ B.getD 0 0 ∧ B.getD 0 0 < 128) (hv : vals (B.take 8) ≤ t ∧ t - vals (B.take 8) ≤ 60000000) :
    Calls Try.prog 11 #[.slice ak 16 pk, .slice aa m pa, .int .i64 t, .slice ao l po] w fun e w' => ∃ r, e = .returned (.tuple #[r, .int .i64 0]) ∧ w'.ownsRow w.heap.size 5 1 r (B.drop 8).length ((B.drop 8).map (Value.int .u8)) ∧ Below w.heap.size w w' := by
  have HT : Hid _ := And.intro ht True.intro
  have HR : Hid _ := And.intro hk (And.intro ha ho)
  have HL : Hid _ := And.intro lk (And.intro bk True.intro)
  have HO : Hid _ := And.intro hO True.intro
  obtain ⟨x, ex⟩ : ∃ x, x = B.getD 0 0 := ⟨_, rfl⟩
  rw [← ex] at hb
  have HX : Hid _ := And.intro ex True.intro
  clear ex
  obtain ⟨tt, et⟩ : ∃ tt, tt = vals (B.take 8) := ⟨_, rfl⟩
  have hv0 : 0 ≤ tt := by rw [et]; exact vals_nonneg _ (bB.take 8)
  have VB : Hid _ := And.intro (bB.take 8) (And.intro (show vals (B.take 8) ≤ 9223372036854775807 by rw [← et]; rw [← et] at hv; omega) (And.intro lB et))
  rw [← et] at hv
  clear bB lB et
  clear ht hk ha ho lk bk hO
  go_enter Try.func11, Try.ntmps11
  go_wp2_with fail
  go_at_call 19
  refine (taS_t ak aa m pk pa t w h24 HT.out.1).mono ?_
  rintro e w2 ⟨rfl, rfl⟩
  go_wp2_with fail
  go_at_call 21
  refine (specKeysOf _ ks _ HR.out.1 HL.out.2.1 (by rw [HL.out.1]; decide)).mono ?_
  rintro e w1 ⟨vk, rfl, ok, b1⟩
  have H1 : Hid _ := And.intro ok b1
  have z1 : w2.heap.size ≤ w1.heap.size := b1.size
  clear ok b1
  go_wp2_with fail
  go_at_call 25
  refine (HO.out.1 _ _ (KOwns.row H1.out.1) (HR.out.2.1.below H1.out.2) (HR.out.2.2.below H1.out.2)).mono ?_
  rintro e w3 ⟨vb, rfl, ob, b3⟩
  obtain ⟨g, p, f, g0, g1⟩ := owns_shape ob (by omega)
  subst f
  obtain ⟨p1, p2⟩ := hm_cap ob
  have H3 : Hid _ := And.intro ob (H1.out.2.trans (b3.mono H1.out.2.size))
  have z3 : w2.heap.size ≤ w3.heap.size := H3.out.2.size
  have c0 := tcell ob 0 (by omega)
  rw [← HX.out.1] at c0
  clear ob b3
  have ht1 := HT.out.1
  obtain ⟨w4, ew4⟩ : ∃ w4, w4 = w3 := ⟨_, rfl⟩
  subst ew4
  have H4 : Hid _ := And.intro H3.out.1 H3.out.2
  go_wp2_with fail
  go_at_call 26
  refine (value_core 8 (B.take 8) g 0 p w4 (by decide) (by rw [List.length_take, VB.out.2.2.1] <;> omega) VB.out.1 VB.out.2.1 (fun j hj => by rw [Nat.zero_add, tcell H4.out.1 j (by omega)]; simp [List.getD, hj])).mono ?_
  rw [← VB.out.2.2.2]
  rintro e w5 ⟨rfl, hw⟩
  subst w5
  go_wp2_with fail
  all_goals (
    go_at_call 27
    refine (copyT _ (B.drop 8) _ (by first | exact tdrop H4.out.1 | exact tdrop0 H4.out.1 (by omega)) (by rw [List.length_drop, VB.out.2.2.1] <;> omega)).mono ?_
    rintro e w6 ⟨r6, rfl, o6, b6⟩
    have H6 : Hid _ := And.intro (owns_mono o6 H4.out.2.size) (H4.out.2.trans (b6.mono H4.out.2.size))
    clear o6 b6
    go_wp2
    go_ret2
    exact ⟨_, rfl, H6.out.1, H6.out.2⟩)
end Go.Proofs.Ytkpmdcmgcdnpfaa

namespace Go.Proofs.Ytkpmdcmgcdnpfaa
open Go.RowKit
set_option linter.unusedVariables false

/-- What one store of a round does. -/
theorem mark_step {e0 : Nat} {w wr : World} {base g n cap k : Nat} {q x : Int} {xs : List Int} (hx : x = (q + (k : Int)) % 256)
    (hl : xs.length = n) (hk : k < n) (hm : ∀ j, j < k → xs.getD j 0 = (q + (j : Int)) % 256)
    (hown : wr.ownsRow base e0 1 (.slice (some ⟨g, 0, none⟩) n cap) n (xs.map (Value.int .u8))) (hb : Below base w wr) (hz : wr.heap.size = w.heap.size) (ho : Only (some g) w wr) (hg : base ≤ g) :
    ∃ ys : List Int, ys.length = n ∧ (∀ j, j < k + 1 → ys.getD j 0 = (q + (j : Int)) % 256) ∧ (wr.setCell ⟨g, k, none⟩ (.int .u8 x)).ownsRow base e0 1 (.slice (some ⟨g, 0, none⟩) n cap) n (ys.map (Value.int .u8)) ∧
      Below base w (wr.setCell ⟨g, k, none⟩ (.int .u8 x)) ∧ (wr.setCell ⟨g, k, none⟩ (.int .u8 x)).heap.size = w.heap.size ∧ Only (some g) w (wr.setCell ⟨g, k, none⟩ (.int .u8 x)) := by
  refine ⟨xs.set k x, by simp [hl], fun j hj => ?_, ?_, hb.setCell hg _, by simp [World.setCell, hz], ho.trans (Only.setCell ⟨g, k, none⟩ _)⟩
  · by_cases e : j = k
    · subst e
      simp [List.getD, hl, hk, hx]
    · have := hm j (by omega)
      simp only [List.getD, List.getElem?_set] at this ⊢
      rw [if_neg (by omega)]
      exact this
  · have := (hown.stored k (.int .u8 x)).1
    rwa [← List.map_set] at this

end Go.Proofs.Ytkpmdcmgcdnpfaa

namespace Go.Proofs.Ytkpmdcmgcdnpfaa
open Go.RowKit
set_option linter.unusedVariables false

/-- A row of one's own, or what lies behind a place of one. -/
def OwnP (w : World) (base : Nat) (v : Value) (n : Nat) (ys : List Int) : Prop :=
  w.ownsRow base 5 1 v n (ys.map (Value.int .u8)) ∨
  ∃ (g off cap c0 : Nat) (xs : List Int), v = .slice (some ⟨g, off, none⟩) n cap ∧ w.ownsRow base 5 1 (.slice (some ⟨g, 0, none⟩) (off + n) c0) (off + n) (xs.map (Value.int .u8)) ∧ xs.drop off = ys ∧ n ≤ cap ∧ cap ≤ maxLen
theorem OwnP.of {w : World} {base n : Nat} {v : Value} {ys : List Int} (h : w.ownsRow base 5 1 v n (ys.map (Value.int .u8))) : OwnP w base v n ys := Or.inl h
theorem ownP_len {w : World} {base n : Nat} {v : Value} {xs : List Int} (h : w.ownsRow base 5 1 v n (xs.map (Value.int .u8))) : xs.length = n := by simpa using h.1
theorem OwnP.row {w : World} {base n : Nat} {v : Value} {ys : List Int} (h : OwnP w base v n ys) : Row w .u8 v ys := by
  rcases h with h | ⟨g, off, cap, c0, xs, rfl, h, rfl, h1, h2⟩
  · exact row_of_owns h
  · have hl := ownP_len h
    have hg := (h.lt g rfl).2
    have hc : ∀ j, j < xs.length → w.cell? ⟨g, 0 + j, none⟩ = some (.int .u8 (xs.getD j 0)) := by
      intro j hj
      rw [Nat.zero_add, h.cellAt j (by omega), List.getElem?_map, List.getElem?_eq_getElem hj]
      simp [List.getD, hj]
    have := row_cut (w := w) (k := .u8) (xs := xs) (b := g) (off := 0) (cap := 0) (at' := off) (n := n) (cap' := cap) hg hc (by omega) ⟨h1, h2⟩
    rw [Nat.zero_add, List.take_of_length_le (by rw [List.length_drop]; omega)] at this
    exact this
theorem OwnP.below {w w' : World} {base n : Nat} {v : Value} {ys : List Int} (h : OwnP w base v n ys) (hb : Below w.heap.size w w') : OwnP w' base v n ys := by
  rcases h with h | ⟨g, off, cap, c0, xs, rfl, h, e, h1, h2⟩
  · exact Or.inl (owns_below h hb)
  · exact Or.inr ⟨g, off, cap, c0, xs, rfl, owns_below h hb, e, h1, h2⟩
theorem OwnP.chg {S : Nat → Prop} {w w' : World} {base n : Nat} {v : Value} {ys : List Int} (h : OwnP w base v n ys) (hc : Chg S w w') (hs : ∀ k, v.ownBlock = some k → ¬ S k) : OwnP w' base v n ys := by
  rcases h with h | ⟨g, off, cap, c0, xs, rfl, h, e, h1, h2⟩
  · exact Or.inl (hc.owns h hs)
  · exact Or.inr ⟨g, off, cap, c0, xs, rfl, hc.owns h (fun k hk => hs k hk), e, h1, h2⟩
theorem OwnP.lt {w : World} {base n : Nat} {v : Value} {ys : List Int} (h : OwnP w base v n ys) (g : Nat) (hg : v.ownBlock = some g) : base ≤ g ∧ g < w.heap.size := by
  rcases h with h | ⟨g', off, cap, c0, xs, rfl, h, e, h1, h2⟩
  · exact h.lt g hg
  · exact h.lt g hg
theorem OwnP.mono {w : World} {base base' n : Nat} {v : Value} {ys : List Int} (h : OwnP w base v n ys) (hb : base' ≤ base) : OwnP w base' v n ys := by
  rcases h with h | ⟨g, off, cap, c0, xs, rfl, h, e, h1, h2⟩
  · exact Or.inl (owns_mono h hb)
  · exact Or.inr ⟨g, off, cap, c0, xs, rfl, owns_mono h hb, e, h1, h2⟩
theorem markP_step {w wr : World} {base g off n c0 k : Nat} {q x : Int} {xs : List Int} (hx : x = (q + (k : Int)) % 256)
    (hl : xs.length = off + n) (hk : k < n) (hm : ∀ j, j < k → xs.getD (off + j) 0 = (q + (j : Int)) % 256)
    (hown : wr.ownsRow base 5 1 (.slice (some ⟨g, 0, none⟩) (off + n) c0) (off + n) (xs.map (Value.int .u8))) (hb : Below base w wr) (hz : wr.heap.size = w.heap.size) (ho : Only (some g) w wr) (hg : base ≤ g) :
    ∃ ys : List Int, ys.length = off + n ∧ (∀ j, j < k + 1 → ys.getD (off + j) 0 = (q + (j : Int)) % 256) ∧ (wr.setCell ⟨g, off + k, none⟩ (.int .u8 x)).ownsRow base 5 1 (.slice (some ⟨g, 0, none⟩) (off + n) c0) (off + n) (ys.map (Value.int .u8)) ∧
      Below base w (wr.setCell ⟨g, off + k, none⟩ (.int .u8 x)) ∧ (wr.setCell ⟨g, off + k, none⟩ (.int .u8 x)).heap.size = w.heap.size ∧ Only (some g) w (wr.setCell ⟨g, off + k, none⟩ (.int .u8 x)) := by
  refine ⟨xs.set (off + k) x, by simp [hl], fun j hj => ?_, ?_, hb.setCell hg _, by simp [World.setCell, hz], ho.trans (Only.setCell ⟨g, off + k, none⟩ _)⟩
  · by_cases e : j = k
    · subst e
      simp [List.getD, hl, hk, hx]
    · have := hm j (by omega)
      simp only [List.getD, List.getElem?_set] at this ⊢
      rw [if_neg (by omega)]
      exact this
  · have := (hown.stored (off + k) (.int .u8 x)).1
    rwa [← List.map_set] at this
end Go.Proofs.Ytkpmdcmgcdnpfaa

namespace Go.Proofs.Ytkpmdcmgcdnpfaa
open Go.RowKit
set_option linter.unusedVariables false

theorem tcI_args (ak aa ao : Option Addr) (n m l pk pa po : Nat) (t : Int) (w : World) (hn : n ≤ 9223372036854775807) (hm : m ≤ 9223372036854775807) (h : ¬ tArg n m t) :
    Calls Try.prog 8 #[.slice ak n pk, .slice aa m pa, .int .i64 t, .slice ao l po] w fun e w' => ∃ r, e = .returned (.tuple #[r, .int .i64 1]) ∧ OwnP w' w.heap.size r 0 [] ∧ Below w.heap.size w w' := by
  have HA : Hid _ := And.intro h True.intro
  clear h
  go_enter Try.func8, Try.ntmps8
  go_wp2_with fail
  go_at_call 14
  refine (taI_f ak aa n m pk pa t w hn hm HA.out.1).mono ?_
  rintro e w2 ⟨rfl, rfl⟩
  go_wp2
  go_ret2
  exact ⟨_, rfl, OwnP.of (World.ownsRow_nil _ _ _ _), Below.refl _ _⟩
set_option maxRecDepth 20000 in
set_option maxHeartbeats 400000 in
theorem tcI_long (ak aa ao : Option Addr) (m l pk pa po q : Nat) (t : Int) (ks ads xs B : List Int) (w : World) (h24 : m ≤ 24) (ht : 0 ≤ t ∧ t ≤ 1000000000000)
    (hk : Row w .u8 (.slice ak 16 pk) ks) (ha : Row w .u8 (.slice aa m pa) ads) (ho : Row w .u8 (.slice ao l po) xs) (lk : ks.length = 16) (bk : Bytes ks)
    (hO : ∀ (w : World) (uk : Value), KRow w uk (keysV ks) → Row w .u8 (.slice aa m pa) ads → Row w .u8 (.slice ao l po) xs → Calls Try.prog 23 #[uk, .int .i64 0, .slice aa m pa, .slice ao l po] w fun e w' => ∃ r, e = .returned (.tuple #[r, .int .i64 0]) ∧ w'.ownsRow w.heap.size 5 1 r (8 + q) (B.map (Value.int .u8)) ∧ Below w.heap.size w w')
    (lB : B.length = 8 + q) (hq : 8 < q) (hx : q ≤ 1508) :
    Calls Try.prog 8 #[.slice ak 16 pk, .slice aa m pa, .int .i64 t, .slice ao l po] w fun e w' => ∃ r, e = .returned (.tuple #[r, .int .i64 13]) ∧ OwnP w' w.heap.size r 0 (([] : List Int)) ∧ Below w.heap.size w w' := by
  have HT : Hid _ := And.intro ht True.intro
  have HR : Hid _ := And.intro hk (And.intro ha ho)
  have HL : Hid _ := And.intro lk (And.intro bk True.intro)
  have HO : Hid _ := And.intro hO True.intro
  have VB : Hid _ := And.intro lB True.intro
  clear lB
  clear ht hk ha ho lk bk hO
  go_enter Try.func8, Try.ntmps8
  go_wp2_with fail
  go_at_call 14
  refine (taI_t ak aa m pk pa t w h24 HT.out.1).mono ?_
  rintro e w2 ⟨rfl, rfl⟩
  go_wp2_with fail
  go_at_call 17
  refine (implKeysOf _ ks _ HR.out.1 HL.out.2.1 (by rw [HL.out.1]; decide)).mono ?_
  rintro e w1 ⟨vk, rfl, ok, b1⟩
  have H1 : Hid _ := And.intro ok b1
  have z1 : w2.heap.size ≤ w1.heap.size := b1.size
  clear ok b1
  go_wp2_with fail
  go_at_call 23
  refine (HO.out.1 _ _ (KOwns.row H1.out.1) (HR.out.2.1.below H1.out.2) (HR.out.2.2.below H1.out.2)).mono ?_
  rintro e w3 ⟨vb, rfl, ob, b3⟩
  obtain ⟨g, p, f, g0, g1⟩ := owns_shape ob (by omega)
  subst f
  obtain ⟨p1, p2⟩ := hm_cap ob
  have H3 : Hid _ := And.intro ob (H1.out.2.trans (b3.mono H1.out.2.size))
  have z3 : w2.heap.size ≤ w3.heap.size := H3.out.2.size
  clear ob b3
  go_wp2_with fail
  go_at_call 15
  refine (icids _ [B.drop 8] _ (parts1 (tdrop H3.out.1) _) (by simp) (cids1_len (B.drop 8) (by rw [List.length_drop, VB.out.1]; omega))).mono ?_
  rw [cids1 q (B.drop 8) (by rw [List.length_drop, VB.out.1]; omega), decide_eq_false (by omega)]
  rintro e w' ⟨rfl, hw⟩
  subst w'
  go_wp2
  go_ret2
  exact ⟨_, rfl, OwnP.of (World.ownsRow_nil _ _ _ _), H3.out.2.alloc H3.out.2.size _⟩
set_option maxRecDepth 20000 in
set_option maxHeartbeats 400000 in
theorem tcI_code (ak aa ao : Option Addr) (m l pk pa po n : Nat) (t : Int) (ks ads xs B : List Int) (c : Int) (w : World) (h24 : m ≤ 24) (ht : 0 ≤ t ∧ t ≤ 1000000000000)
    (hk : Row w .u8 (.slice ak 16 pk) ks) (ha : Row w .u8 (.slice aa m pa) ads) (ho : Row w .u8 (.slice ao l po) xs) (lk : ks.length = 16) (bk : Bytes ks)
    (hO : ∀ (w : World) (uk : Value), KRow w uk (keysV ks) → Row w .u8 (.slice aa m pa) ads → Row w .u8 (.slice ao l po) xs → Calls Try.prog 23 #[uk, .int .i64 0, .slice aa m pa, .slice ao l po] w fun e w' => ∃ r, e = .returned (.tuple #[r, .int .i64 c]) ∧ w'.ownsRow w.heap.size 5 1 r (n) (B.map (Value.int .u8)) ∧ Below w.heap.size w w')
    (hn : n ≤ 1508) (hc : (c != 0) = true) :
    Calls Try.prog 8 #[.slice ak 16 pk, .slice aa m pa, .int .i64 t, .slice ao l po] w fun e w' => ∃ r, e = .returned (.tuple #[r, .int .i64 13]) ∧ OwnP w' w.heap.size r 0 (([] : List Int)) ∧ Below w.heap.size w w' := by
  have HT : Hid _ := And.intro ht True.intro
  have HR : Hid _ := And.intro hk (And.intro ha ho)
  have HL : Hid _ := And.intro lk (And.intro bk True.intro)
  have HO : Hid _ := And.intro hO True.intro
  skip
  clear ht hk ha ho lk bk hO
  go_enter Try.func8, Try.ntmps8
  go_wp2_with fail
  go_at_call 14
  refine (taI_t ak aa m pk pa t w h24 HT.out.1).mono ?_
  rintro e w2 ⟨rfl, rfl⟩
  go_wp2_with fail
  go_at_call 17
  refine (implKeysOf _ ks _ HR.out.1 HL.out.2.1 (by rw [HL.out.1]; decide)).mono ?_
  rintro e w1 ⟨vk, rfl, ok, b1⟩
  have H1 : Hid _ := And.intro ok b1
  have z1 : w2.heap.size ≤ w1.heap.size := b1.size
  clear ok b1
  go_wp2_with fail
  go_at_call 23
  refine (HO.out.1 _ _ (KOwns.row H1.out.1) (HR.out.2.1.below H1.out.2) (HR.out.2.2.below H1.out.2)).mono ?_
  rintro e w3 ⟨vb, rfl, ob, b3⟩
  obtain ⟨ab, cb, f⟩ := own_formT ob
  subst f
  have H3 : Hid _ := And.intro ob (H1.out.2.trans (b3.mono H1.out.2.size))
  have z3 : w2.heap.size ≤ w3.heap.size := H3.out.2.size
  clear ob b3
  go_wp2
  go_ret2
  exact ⟨_, rfl, OwnP.of (World.ownsRow_nil _ _ _ _), H3.out.2⟩
set_option maxRecDepth 20000 in
set_option maxHeartbeats 400000 in
theorem tcI_short (ak aa ao : Option Addr) (m l pk pa po n : Nat) (t : Int) (ks ads xs B : List Int) (w : World) (h24 : m ≤ 24) (ht : 0 ≤ t ∧ t ≤ 1000000000000)
    (hk : Row w .u8 (.slice ak 16 pk) ks) (ha : Row w .u8 (.slice aa m pa) ads) (ho : Row w .u8 (.slice ao l po) xs) (lk : ks.length = 16) (bk : Bytes ks)
    (hO : ∀ (w : World) (uk : Value), KRow w uk (keysV ks) → Row w .u8 (.slice aa m pa) ads → Row w .u8 (.slice ao l po) xs → Calls Try.prog 23 #[uk, .int .i64 0, .slice aa m pa, .slice ao l po] w fun e w' => ∃ r, e = .returned (.tuple #[r, .int .i64 0]) ∧ w'.ownsRow w.heap.size 5 1 r (n) (B.map (Value.int .u8)) ∧ Below w.heap.size w w')
    (hn : n < 8) :
    Calls Try.prog 8 #[.slice ak 16 pk, .slice aa m pa, .int .i64 t, .slice ao l po] w fun e w' => ∃ r, e = .returned (.tuple #[r, .int .i64 13]) ∧ OwnP w' w.heap.size r 0 (([] : List Int)) ∧ Below w.heap.size w w' := by
  have HT : Hid _ := And.intro ht True.intro
  have HR : Hid _ := And.intro hk (And.intro ha ho)
  have HL : Hid _ := And.intro lk (And.intro bk True.intro)
  have HO : Hid _ := And.intro hO True.intro
  skip
  clear ht hk ha ho lk bk hO
  go_enter Try.func8, Try.ntmps8
  go_wp2_with fail
  go_at_call 14
  refine (taI_t ak aa m pk pa t w h24 HT.out.1).mono ?_
  rintro e w2 ⟨rfl, rfl⟩
  go_wp2_with fail
  go_at_call 17
  refine (implKeysOf _ ks _ HR.out.1 HL.out.2.1 (by rw [HL.out.1]; decide)).mono ?_
  rintro e w1 ⟨vk, rfl, ok, b1⟩
  have H1 : Hid _ := And.intro ok b1
  have z1 : w2.heap.size ≤ w1.heap.size := b1.size
  clear ok b1
  go_wp2_with fail
  go_at_call 23
  refine (HO.out.1 _ _ (KOwns.row H1.out.1) (HR.out.2.1.below H1.out.2) (HR.out.2.2.below H1.out.2)).mono ?_
  rintro e w3 ⟨vb, rfl, ob, b3⟩
  obtain ⟨ab, cb, f⟩ := own_formT ob
  subst f
  have H3 : Hid _ := And.intro ob (H1.out.2.trans (b3.mono H1.out.2.size))
  have z3 : w2.heap.size ≤ w3.heap.size := H3.out.2.size
  clear ob b3
  go_wp2
  go_ret2
  exact ⟨_, rfl, OwnP.of (World.ownsRow_nil _ _ _ _), H3.out.2⟩
set_option maxRecDepth 20000 in
set_option maxHeartbeats 400000 in
theorem tcI_early (ak aa ao : Option Addr) (m l pk pa po q : Nat) (t : Int) (ks ads xs B : List Int) (w : World) (h24 : m ≤ 24) (ht : 0 ≤ t ∧ t ≤ 1000000000000)
    (hk : Row w .u8 (.slice ak 16 pk) ks) (ha : Row w .u8 (.slice aa m pa) ads) (ho : Row w .u8 (.slice ao l po) xs) (lk : ks.length = 16) (bk : Bytes ks)
    (hO : ∀ (w : World) (uk : Value), KRow w uk (keysV ks) → Row w .u8 (.slice aa m pa) ads → Row w .u8 (.slice ao l po) xs → Calls Try.prog 23 #[uk, .int .i64 0, .slice aa m pa, .slice ao l po] w fun e w' => ∃ r, e = .returned (.tuple #[r, .int .i64 0]) ∧ w'.ownsRow w.heap.size 5 1 r (8 + q) (B.map (Value.int .u8)) ∧ Below w.heap.size w w')
    (lB : B.length = 8 + q) (bB : Bytes B) (hq : q ≤ 8)  (hv : t < vals (B.take 8)) :
    Calls Try.prog 8 #[.slice ak 16 pk, .slice aa m pa, .int .i64 t, .slice ao l po] w fun e w' => ∃ r, e = .returned (.tuple #[r, .int .i64 13]) ∧ OwnP w' w.heap.size r 0 (([] : List Int)) ∧ Below w.heap.size w w' := by
  have HT : Hid _ := And.intro ht True.intro
  have HR : Hid _ := And.intro hk (And.intro ha ho)
  have HL : Hid _ := And.intro lk (And.intro bk True.intro)
  have HO : Hid _ := And.intro hO True.intro
  obtain ⟨tt, et⟩ : ∃ tt, tt = vals (B.take 8) := ⟨_, rfl⟩
  have hv0 : 0 ≤ tt := by rw [et]; exact vals_nonneg _ (bB.take 8)
  have VB : Hid _ := And.intro (bB.take 8) (And.intro True.intro (And.intro lB et))
  rw [← et] at hv
  clear bB lB et
  clear ht hk ha ho lk bk hO
  go_enter Try.func8, Try.ntmps8
  go_wp2_with fail
  go_at_call 14
  refine (taI_t ak aa m pk pa t w h24 HT.out.1).mono ?_
  rintro e w2 ⟨rfl, rfl⟩
  go_wp2_with fail
  go_at_call 17
  refine (implKeysOf _ ks _ HR.out.1 HL.out.2.1 (by rw [HL.out.1]; decide)).mono ?_
  rintro e w1 ⟨vk, rfl, ok, b1⟩
  have H1 : Hid _ := And.intro ok b1
  have z1 : w2.heap.size ≤ w1.heap.size := b1.size
  clear ok b1
  go_wp2_with fail
  go_at_call 23
  refine (HO.out.1 _ _ (KOwns.row H1.out.1) (HR.out.2.1.below H1.out.2) (HR.out.2.2.below H1.out.2)).mono ?_
  rintro e w3 ⟨vb, rfl, ob, b3⟩
  obtain ⟨g, p, f, g0, g1⟩ := owns_shape ob (by omega)
  subst f
  obtain ⟨p1, p2⟩ := hm_cap ob
  have H3 : Hid _ := And.intro ob (H1.out.2.trans (b3.mono H1.out.2.size))
  have z3 : w2.heap.size ≤ w3.heap.size := H3.out.2.size
  clear ob b3
  by_cases hp8 : p = 8
  · subst hp8
    obtain rfl : q = 0 := by omega
    go_wp2_with fail
    go_at_call 15
    refine (icids _ [B.drop 8] _ (parts1 (tdrop0 H3.out.1 rfl) _) (by simp) (cids1_len (B.drop 8) (by rw [List.length_drop, VB.out.2.2.1] <;> omega))).mono ?_
    rw [cids1 0 (B.drop 8) (by rw [List.length_drop, VB.out.2.2.1] <;> omega), decide_eq_true hq]
    rintro e w' ⟨rfl, hw⟩
    subst w'
    have C3 : Below w3.heap.size w3 (w3.alloc (.cells #[.slice (some ⟨g, 0, none⟩) 0 0] 22)) := (Below.refl _ _).alloc (Nat.le_refl _) _
    obtain ⟨w4, ew4⟩ : ∃ w4, w4 = w3.alloc (.cells #[.slice (some ⟨g, 0, none⟩) 0 0] 22) := ⟨_, rfl⟩
    rw [← ew4] at C3 ⊢
    have H4 : Hid _ := And.intro (owns_below H3.out.1 C3) (H3.out.2.trans (C3.mono H3.out.2.size))
    have z4 : w2.heap.size ≤ w4.heap.size := H4.out.2.size
    clear C3 ew4
    go_wp2_with fail
    go_at_call 24
    refine (read_core 8 (B.take 8) g 0 8 w4 (by decide) (by rw [List.length_take, VB.out.2.2.1] <;> omega) VB.out.1 (fun j hj => by rw [Nat.zero_add, tcell H4.out.1 j (by omega)]; simp [List.getD, hj])).mono ?_
    rw [← VB.out.2.2.2]
    rintro e w5 ⟨rfl, hw⟩
    subst w5
    have u1 : IntKind.u64.wrap t = t := by rw [IntKind.wrap_u64]; have := HT.out.1; omega
    go_wp2
    go_ret2
    exact ⟨_, rfl, OwnP.of (World.ownsRow_nil _ _ _ _), H4.out.2⟩
  · skip
    go_wp2_with fail
    go_at_call 15
    refine (icids _ [B.drop 8] _ (parts1 (tdrop H3.out.1) _) (by simp) (cids1_len (B.drop 8) (by rw [List.length_drop, VB.out.2.2.1] <;> omega))).mono ?_
    rw [cids1 q (B.drop 8) (by rw [List.length_drop, VB.out.2.2.1] <;> omega), decide_eq_true hq]
    rintro e w' ⟨rfl, hw⟩
    subst w'
    have C3 : Below w3.heap.size w3 (w3.alloc (.cells #[.slice (some ⟨g, 8, none⟩) q (p - 8)] 22)) := (Below.refl _ _).alloc (Nat.le_refl _) _
    obtain ⟨w4, ew4⟩ : ∃ w4, w4 = w3.alloc (.cells #[.slice (some ⟨g, 8, none⟩) q (p - 8)] 22) := ⟨_, rfl⟩
    rw [← ew4] at C3 ⊢
    have H4 : Hid _ := And.intro (owns_below H3.out.1 C3) (H3.out.2.trans (C3.mono H3.out.2.size))
    have z4 : w2.heap.size ≤ w4.heap.size := H4.out.2.size
    clear C3 ew4
    go_wp2_with fail
    go_at_call 24
    refine (read_core 8 (B.take 8) g 0 p w4 (by decide) (by rw [List.length_take, VB.out.2.2.1] <;> omega) VB.out.1 (fun j hj => by rw [Nat.zero_add, tcell H4.out.1 j (by omega)]; simp [List.getD, hj])).mono ?_
    rw [← VB.out.2.2.2]
    rintro e w5 ⟨rfl, hw⟩
    subst w5
    have u1 : IntKind.u64.wrap t = t := by rw [IntKind.wrap_u64]; have := HT.out.1; omega
    go_wp2
    go_ret2
    exact ⟨_, rfl, OwnP.of (World.ownsRow_nil _ _ _ _), H4.out.2⟩
set_option maxRecDepth 20000 in
set_option maxHeartbeats 400000 in
theorem tcI_late (ak aa ao : Option Addr) (m l pk pa po q : Nat) (t : Int) (ks ads xs B : List Int) (w : World) (h24 : m ≤ 24) (ht : 0 ≤ t ∧ t ≤ 1000000000000)
    (hk : Row w .u8 (.slice ak 16 pk) ks) (ha : Row w .u8 (.slice aa m pa) ads) (ho : Row w .u8 (.slice ao l po) xs) (lk : ks.length = 16) (bk : Bytes ks)
    (hO : ∀ (w : World) (uk : Value), KRow w uk (keysV ks) → Row w .u8 (.slice aa m pa) ads → Row w .u8 (.slice ao l po) xs → Calls Try.prog 23 #[uk, .int .i64 0, .slice aa m pa, .slice ao l po] w fun e w' => ∃ r, e = .returned (.tuple #[r, .int .i64 0]) ∧ w'.ownsRow w.heap.size 5 1 r (8 + q) (B.map (Value.int .u8)) ∧ Below w.heap.size w w')
    (lB : B.length = 8 + q) (bB : Bytes B) (hq : q ≤ 8)  (hv : vals (B.take 8) ≤ t ∧ 60000000 < t - vals (B.take 8)) :
    Calls Try.prog 8 #[.slice ak 16 pk, .slice aa m pa, .int .i64 t, .slice ao l po] w fun e w' => ∃ r, e = .returned (.tuple #[r, .int .i64 13]) ∧ OwnP w' w.heap.size r 0 (([] : List Int)) ∧ Below w.heap.size w w' := by
  have HT : Hid _ := And.intro ht True.intro
  have HR : Hid _ := And.intro hk (And.intro ha ho)
  have HL : Hid _ := And.intro lk (And.intro bk True.intro)
  have HO : Hid _ := And.intro hO True.intro
  obtain ⟨tt, et⟩ : ∃ tt, tt = vals (B.take 8) := ⟨_, rfl⟩
  have hv0 : 0 ≤ tt := by rw [et]; exact vals_nonneg _ (bB.take 8)
  have VB : Hid _ := And.intro (bB.take 8) (And.intro True.intro (And.intro lB et))
  rw [← et] at hv
  clear bB lB et
  clear ht hk ha ho lk bk hO
  go_enter Try.func8, Try.ntmps8
  go_wp2_with fail
  go_at_call 14
  refine (taI_t ak aa m pk pa t w h24 HT.out.1).mono ?_
  rintro e w2 ⟨rfl, rfl⟩
  go_wp2_with fail
  go_at_call 17
  refine (implKeysOf _ ks _ HR.out.1 HL.out.2.1 (by rw [HL.out.1]; decide)).mono ?_
  rintro e w1 ⟨vk, rfl, ok, b1⟩
  have H1 : Hid _ := And.intro ok b1
  have z1 : w2.heap.size ≤ w1.heap.size := b1.size
  clear ok b1
  go_wp2_with fail
  go_at_call 23
  refine (HO.out.1 _ _ (KOwns.row H1.out.1) (HR.out.2.1.below H1.out.2) (HR.out.2.2.below H1.out.2)).mono ?_
  rintro e w3 ⟨vb, rfl, ob, b3⟩
  obtain ⟨g, p, f, g0, g1⟩ := owns_shape ob (by omega)
  subst f
  obtain ⟨p1, p2⟩ := hm_cap ob
  have H3 : Hid _ := And.intro ob (H1.out.2.trans (b3.mono H1.out.2.size))
  have z3 : w2.heap.size ≤ w3.heap.size := H3.out.2.size
  clear ob b3
  have ht1 := HT.out.1
  by_cases hp8 : p = 8
  · subst hp8
    obtain rfl : q = 0 := by omega
    go_wp2_with fail
    go_at_call 15
    refine (icids _ [B.drop 8] _ (parts1 (tdrop0 H3.out.1 rfl) _) (by simp) (cids1_len (B.drop 8) (by rw [List.length_drop, VB.out.2.2.1] <;> omega))).mono ?_
    rw [cids1 0 (B.drop 8) (by rw [List.length_drop, VB.out.2.2.1] <;> omega), decide_eq_true hq]
    rintro e w' ⟨rfl, hw⟩
    subst w'
    have C3 : Below w3.heap.size w3 (w3.alloc (.cells #[.slice (some ⟨g, 0, none⟩) 0 0] 22)) := (Below.refl _ _).alloc (Nat.le_refl _) _
    obtain ⟨w4, ew4⟩ : ∃ w4, w4 = w3.alloc (.cells #[.slice (some ⟨g, 0, none⟩) 0 0] 22) := ⟨_, rfl⟩
    rw [← ew4] at C3 ⊢
    have H4 : Hid _ := And.intro (owns_below H3.out.1 C3) (H3.out.2.trans (C3.mono H3.out.2.size))
    have z4 : w2.heap.size ≤ w4.heap.size := H4.out.2.size
    clear C3 ew4
    go_wp2_with fail
    go_at_call 24
    refine (read_core 8 (B.take 8) g 0 8 w4 (by decide) (by rw [List.length_take, VB.out.2.2.1] <;> omega) VB.out.1 (fun j hj => by rw [Nat.zero_add, tcell H4.out.1 j (by omega)]; simp [List.getD, hj])).mono ?_
    rw [← VB.out.2.2.2]
    rintro e w5 ⟨rfl, hw⟩
    subst w5
    have u1 : IntKind.u64.wrap t = t := by rw [IntKind.wrap_u64]; have := HT.out.1; omega
    have u2 : IntKind.u64.wrap (t - tt) = t - tt := by rw [IntKind.wrap_u64]; have := HT.out.1; omega
    go_wp2
    go_ret2
    exact ⟨_, rfl, OwnP.of (World.ownsRow_nil _ _ _ _), H4.out.2⟩
  · skip
    go_wp2_with fail
    go_at_call 15
    refine (icids _ [B.drop 8] _ (parts1 (tdrop H3.out.1) _) (by simp) (cids1_len (B.drop 8) (by rw [List.length_drop, VB.out.2.2.1] <;> omega))).mono ?_
    rw [cids1 q (B.drop 8) (by rw [List.length_drop, VB.out.2.2.1] <;> omega), decide_eq_true hq]
    rintro e w' ⟨rfl, hw⟩
    subst w'
    have C3 : Below w3.heap.size w3 (w3.alloc (.cells #[.slice (some ⟨g, 8, none⟩) q (p - 8)] 22)) := (Below.refl _ _).alloc (Nat.le_refl _) _
    obtain ⟨w4, ew4⟩ : ∃ w4, w4 = w3.alloc (.cells #[.slice (some ⟨g, 8, none⟩) q (p - 8)] 22) := ⟨_, rfl⟩
    rw [← ew4] at C3 ⊢
    have H4 : Hid _ := And.intro (owns_below H3.out.1 C3) (H3.out.2.trans (C3.mono H3.out.2.size))
    have z4 : w2.heap.size ≤ w4.heap.size := H4.out.2.size
    clear C3 ew4
    go_wp2_with fail
    go_at_call 24
    refine (read_core 8 (B.take 8) g 0 p w4 (by decide) (by rw [List.length_take, VB.out.2.2.1] <;> omega) VB.out.1 (fun j hj => by rw [Nat.zero_add, tcell H4.out.1 j (by omega)]; simp [List.getD, hj])).mono ?_
    rw [← VB.out.2.2.2]
    rintro e w5 ⟨rfl, hw⟩
    subst w5
    have u1 : IntKind.u64.wrap t = t := by rw [IntKind.wrap_u64]; have := HT.out.1; omega
    have u2 : IntKind.u64.wrap (t - tt) = t - tt := by rw [IntKind.wrap_u64]; have := HT.out.1; omega
    go_wp2
    go_ret2
    exact ⟨_, rfl, OwnP.of (World.ownsRow_nil _ _ _ _), H4.out.2⟩
set_option maxRecDepth 20000 in
set_option maxHeartbeats 400000 in
theorem tcI_ok (ak aa ao : Option Addr) (m l pk pa po q : Nat) (t : Int) (ks ads xs B : List Int) (w : World) (h24 : m ≤ 24) (ht : 0 ≤ t ∧ t ≤ 1000000000000)
    (hk : Row w .u8 (.slice ak 16 pk) ks) (ha : Row w .u8 (.slice aa m pa) ads) (ho : Row w .u8 (.slice ao l po) xs) (lk : ks.length = 16) (bk : Bytes ks)
    (hO : ∀ (w : World) (uk : Value), KRow w uk (keysV ks) → Row w .u8 (.slice aa m pa) ads → Row w .u8 (.slice ao l po) xs → Calls Try.prog 23 #[uk, .int .i64 0, .slice aa m pa, .slice ao l po] w fun e w' => ∃ r, e = .returned (.tuple #[r, .int .i64 0]) ∧ w'.ownsRow w.heap.size 5 1 r (8 + q) (B.map (Value.int .u8)) ∧ Below w.heap.size w w')
    (lB : B.length = 8 + q) (bB : Bytes B) (hq : q ≤ 8)  (hv : vals (B.take 8) ≤ t ∧ t - vals (B.take 8) ≤ 60000000) :
    Calls Try.prog 8 #[.slice ak 16 pk, .slice aa m pa, .int .i64 t, .slice ao l po] w fun e w' => ∃ r, e = .returned (.tuple #[r, .int .i64 0]) ∧ OwnP w' w.heap.size r (B.drop 8).length (B.drop 8) ∧ Below w.heap.size w w' := by
  have HT : Hid _ := And.intro ht True.intro
  have HR : Hid _ := And.intro hk (And.intro ha ho)
  have HL : Hid _ := And.intro lk (And.intro bk True.intro)
  have HO : Hid _ := And.intro hO True.intro
  obtain ⟨tt, et⟩ : ∃ tt, tt = vals (B.take 8) := ⟨_, rfl⟩
  have hv0 : 0 ≤ tt := by rw [et]; exact vals_nonneg _ (bB.take 8)
  have VB : Hid _ := And.intro (bB.take 8) (And.intro True.intro (And.intro lB et))
  rw [← et] at hv
  clear bB lB et
  clear ht hk ha ho lk bk hO
  go_enter Try.func8, Try.ntmps8
  go_wp2_with fail
  go_at_call 14
  refine (taI_t ak aa m pk pa t w h24 HT.out.1).mono ?_
  rintro e w2 ⟨rfl, rfl⟩
  go_wp2_with fail
  go_at_call 17
  refine (implKeysOf _ ks _ HR.out.1 HL.out.2.1 (by rw [HL.out.1]; decide)).mono ?_
  rintro e w1 ⟨vk, rfl, ok, b1⟩
  have H1 : Hid _ := And.intro ok b1
  have z1 : w2.heap.size ≤ w1.heap.size := b1.size
  clear ok b1
  go_wp2_with fail
  go_at_call 23
  refine (HO.out.1 _ _ (KOwns.row H1.out.1) (HR.out.2.1.below H1.out.2) (HR.out.2.2.below H1.out.2)).mono ?_
  rintro e w3 ⟨vb, rfl, ob, b3⟩
  obtain ⟨g, p, f, g0, g1⟩ := owns_shape ob (by omega)
  subst f
  obtain ⟨p1, p2⟩ := hm_cap ob
  have H3 : Hid _ := And.intro ob (H1.out.2.trans (b3.mono H1.out.2.size))
  have z3 : w2.heap.size ≤ w3.heap.size := H3.out.2.size
  clear ob b3
  have ht1 := HT.out.1
  by_cases hp8 : p = 8
  · subst hp8
    obtain rfl : q = 0 := by omega
    go_wp2_with fail
    go_at_call 15
    refine (icids _ [B.drop 8] _ (parts1 (tdrop0 H3.out.1 rfl) _) (by simp) (cids1_len (B.drop 8) (by rw [List.length_drop, VB.out.2.2.1] <;> omega))).mono ?_
    rw [cids1 0 (B.drop 8) (by rw [List.length_drop, VB.out.2.2.1] <;> omega), decide_eq_true hq]
    rintro e w' ⟨rfl, hw⟩
    subst w'
    have C3 : Below w3.heap.size w3 (w3.alloc (.cells #[.slice (some ⟨g, 0, none⟩) 0 0] 22)) := (Below.refl _ _).alloc (Nat.le_refl _) _
    obtain ⟨w4, ew4⟩ : ∃ w4, w4 = w3.alloc (.cells #[.slice (some ⟨g, 0, none⟩) 0 0] 22) := ⟨_, rfl⟩
    rw [← ew4] at C3 ⊢
    have H4 : Hid _ := And.intro (owns_below H3.out.1 C3) (H3.out.2.trans (C3.mono H3.out.2.size))
    have z4 : w2.heap.size ≤ w4.heap.size := H4.out.2.size
    clear C3 ew4
    go_wp2_with fail
    go_at_call 24
    refine (read_core 8 (B.take 8) g 0 8 w4 (by decide) (by rw [List.length_take, VB.out.2.2.1] <;> omega) VB.out.1 (fun j hj => by rw [Nat.zero_add, tcell H4.out.1 j (by omega)]; simp [List.getD, hj])).mono ?_
    rw [← VB.out.2.2.2]
    rintro e w5 ⟨rfl, hw⟩
    subst w5
    have u1 : IntKind.u64.wrap t = t := by rw [IntKind.wrap_u64]; have := HT.out.1; omega
    have u2 : IntKind.u64.wrap (t - tt) = t - tt := by rw [IntKind.wrap_u64]; have := HT.out.1; omega
    go_wp2
    go_ret2
    refine ⟨_, rfl, ?_, H4.out.2⟩
    rw [show (B.drop 8).length = 0 by rw [List.length_drop, VB.out.2.2.1] <;> omega]
    rw [List.drop_eq_nil_of_le (by rw [VB.out.2.2.1] <;> omega)]
    exact Or.inr ⟨g, 0, 0, _, [], rfl, owns_mono (owns0 H4.out.1) z1, rfl, by omega, by decide⟩
  · skip
    go_wp2_with fail
    go_at_call 15
    refine (icids _ [B.drop 8] _ (parts1 (tdrop H3.out.1) _) (by simp) (cids1_len (B.drop 8) (by rw [List.length_drop, VB.out.2.2.1] <;> omega))).mono ?_
    rw [cids1 q (B.drop 8) (by rw [List.length_drop, VB.out.2.2.1] <;> omega), decide_eq_true hq]
    rintro e w' ⟨rfl, hw⟩
    subst w'
    have C3 : Below w3.heap.size w3 (w3.alloc (.cells #[.slice (some ⟨g, 8, none⟩) q (p - 8)] 22)) := (Below.refl _ _).alloc (Nat.le_refl _) _
    obtain ⟨w4, ew4⟩ : ∃ w4, w4 = w3.alloc (.cells #[.slice (some ⟨g, 8, none⟩) q (p - 8)] 22) := ⟨_, rfl⟩
    rw [← ew4] at C3 ⊢
    have H4 : Hid _ := And.intro (owns_below H3.out.1 C3) (H3.out.2.trans (C3.mono H3.out.2.size))
    have z4 : w2.heap.size ≤ w4.heap.size := H4.out.2.size
    clear C3 ew4
    go_wp2_with fail
    go_at_call 24
    refine (read_core 8 (B.take 8) g 0 p w4 (by decide) (by rw [List.length_take, VB.out.2.2.1] <;> omega) VB.out.1 (fun j hj => by rw [Nat.zero_add, tcell H4.out.1 j (by omega)]; simp [List.getD, hj])).mono ?_
    rw [← VB.out.2.2.2]
    rintro e w5 ⟨rfl, hw⟩
    subst w5
    have u1 : IntKind.u64.wrap t = t := by rw [IntKind.wrap_u64]; have := HT.out.1; omega
    have u2 : IntKind.u64.wrap (t - tt) = t - tt := by rw [IntKind.wrap_u64]; have := HT.out.1; omega
    go_wp2
    go_ret2
    refine ⟨_, rfl, ?_, H4.out.2⟩
    rw [show (B.drop 8).length = q by rw [List.length_drop, VB.out.2.2.1] <;> omega]
    exact Or.inr ⟨g, 8, p - 8, p, B, rfl, owns_mono H4.out.1 z1, rfl, by omega, by unfold maxLen; omega⟩
end Go.Proofs.Ytkpmdcmgcdnpfaa

namespace Go.Proofs.Ytkpmdcmgcdnpfaa
open Go.RowKit
set_option linter.unusedVariables false

/-- What OpenSealed answers to a token, and its code. -/
def tkO (ks ads xs : List Int) : List Int × Int :=
  if 1508 < ads.length + xs.length then ([], 4) else if xs.length < 8 then ([], 2) else
  if tagV (keysV ks).b (nonV (keysV ks) 0) ads (xs.take (xs.length - 8)) = xs.drop (xs.length - 8) then (overV (keysV ks) 0 (xs.take (xs.length - 8)), 0) else ([], 5)
theorem tkO_len (ks ads xs : List Int) : (tkO ks ads xs).1.length ≤ 1508 := by
  unfold tkO
  split
  · simp
  · split
    · simp
    · split
      · simp only [overV_length, List.length_take]; omega
      · simp
theorem tkO_bytes (ks ads xs : List Int) : Bytes (tkO ks ads xs).1 := by
  have hn : Bytes ([] : List Int) := fun x hx => by cases hx
  unfold tkO
  split
  · exact hn
  · split
    · exact hn
    · split
      · exact xl_bytes _ _ _
      · exact hn
theorem tkO_spec (ks ads xs : List Int) (w : World) (uk ua ux : Value) (lk : ks.length = 16) (bk : Bytes ks) (ba : Bytes ads) (bx : Bytes xs) (ha : ads.length ≤ 1099511627776) (hx : xs.length ≤ 1099511627776)
    (rk : KRow w uk (keysV ks)) (ra : Row w .u8 ua ads) (rx : Row w .u8 ux xs) :
    Calls Try.prog 25 #[uk, .int .i64 0, ua, ux] w fun e w' => ∃ r, e = .returned (.tuple #[r, .int .i64 (tkO ks ads xs).2]) ∧ w'.ownsRow w.heap.size 5 1 r (tkO ks ads xs).1.length ((tkO ks ads xs).1.map (Value.int .u8)) ∧ Below w.heap.size w w' := by
  have hk := keysV_kok ks lk
  have kb := keysV_bytes ks bk
  obtain ⟨ao2, cp2, rfl⟩ := ra.form
  unfold tkO
  by_cases hl : 1508 < ads.length + xs.length
  · rw [if_pos hl]
    obtain ⟨ao3, cp3, rfl⟩ := rx.form
    exact open_long uk ao2 ao3 _ _ cp2 cp3 (keysV ks) 0 w rk hk (by decide) (by decide) hl ha hx
  · rw [if_neg hl]
    by_cases h8 : xs.length < 8
    · rw [if_pos h8]
      obtain ⟨ao3, cp3, rfl⟩ := rx.form
      exact open_short uk ao2 ao3 _ _ cp2 cp3 (keysV ks) 0 w rk hk (by decide) (by decide) (by omega) h8 ha hx
    · rw [if_neg h8]
      obtain ⟨n, hN⟩ : ∃ n, xs.length = n + 8 := ⟨xs.length - 8, by omega⟩
      obtain ⟨b, off, cp3, rfl, _⟩ := rx.at (by omega)
      have en : xs.length - 8 = n := by omega
      rw [en]
      by_cases hc : tagV (keysV ks).b (nonV (keysV ks) 0) ads (xs.take n) = xs.drop n
      · rw [if_pos hc]
        rw [hN] at rx ⊢
        exact open_right uk ao2 cp2 b off n cp3 (keysV ks) 0 ads xs w rk kb hk (by decide) (by decide) hN (by omega) ra rx ba bx hc
      · rw [if_neg hc]
        rw [hN] at rx ⊢
        exact open_wrong uk ao2 cp2 b off n cp3 (keysV ks) 0 ads xs w rk kb hk (by decide) (by decide) hN (by omega) ra rx ba bx hc
theorem tkO_impl (ks ads xs : List Int) (w : World) (uk ua ux : Value) (lk : ks.length = 16) (bk : Bytes ks) (ba : Bytes ads) (bx : Bytes xs) (ha : ads.length ≤ 1099511627776) (hx : xs.length ≤ 1099511627776)
    (rk : KRow w uk (keysV ks)) (ra : Row w .u8 ua ads) (rx : Row w .u8 ux xs) :
    Calls Try.prog 23 #[uk, .int .i64 0, ua, ux] w fun e w' => ∃ r, e = .returned (.tuple #[r, .int .i64 (tkO ks ads xs).2]) ∧ w'.ownsRow w.heap.size 5 1 r (tkO ks ads xs).1.length ((tkO ks ads xs).1.map (Value.int .u8)) ∧ Below w.heap.size w w' := by
  have hk := keysV_kok ks lk
  have kb := keysV_bytes ks bk
  obtain ⟨ao2, cp2, rfl⟩ := ra.form
  unfold tkO
  by_cases hl : 1508 < ads.length + xs.length
  · rw [if_pos hl]
    obtain ⟨ao3, cp3, rfl⟩ := rx.form
    exact iopen_long uk ao2 ao3 _ _ cp2 cp3 (keysV ks) 0 w rk hk (by decide) (by decide) hl ha hx
  · rw [if_neg hl]
    by_cases h8 : xs.length < 8
    · rw [if_pos h8]
      obtain ⟨ao3, cp3, rfl⟩ := rx.form
      exact iopen_short uk ao2 ao3 _ _ cp2 cp3 (keysV ks) 0 w rk hk (by decide) (by decide) (by omega) h8 ha hx
    · rw [if_neg h8]
      obtain ⟨n, hN⟩ : ∃ n, xs.length = n + 8 := ⟨xs.length - 8, by omega⟩
      obtain ⟨b, off, cp3, rfl, _⟩ := rx.at (by omega)
      have en : xs.length - 8 = n := by omega
      rw [en]
      by_cases hc : tagV (keysV ks).b (nonV (keysV ks) 0) ads (xs.take n) = xs.drop n
      · rw [if_pos hc]
        rw [hN] at rx ⊢
        exact iopen_right uk ao2 cp2 b off n cp3 (keysV ks) 0 ads xs w rk kb hk (by decide) (by decide) hN (by omega) ra rx ba bx hc
      · rw [if_neg hc]
        rw [hN] at rx ⊢
        exact iopen_wrong uk ao2 cp2 b off n cp3 (keysV ks) 0 ads xs w rk kb hk (by decide) (by decide) hN (by omega) ra rx ba bx hc
/-- The time that a body tells, where its first byte is 128 or more, is above every time. -/
theorem vals_high (B : List Int) (bB : Bytes B) (l : 8 ≤ B.length) (h : 128 ≤ B.getD 0 0) : 9223372036854775807 < vals (B.take 8) := by
  match B, l with
  | b0 :: b1 :: b2 :: b3 :: b4 :: b5 :: b6 :: b7 :: rest, _ =>
    have g (i : Nat) := bB.at i
    have := g 1; have := g 2; have := g 3; have := g 4; have := g 5; have := g 6; have := g 7
    simp [List.getD] at *
    simp [vals]
    omega
theorem vals_low (B : List Int) (bB : Bytes B) (l : 8 ≤ B.length) (h : B.getD 0 0 < 128) : vals (B.take 8) ≤ 9223372036854775807 := by
  match B, l with
  | b0 :: b1 :: b2 :: b3 :: b4 :: b5 :: b6 :: b7 :: rest, _ =>
    have g (i : Nat) := bB.at i
    have := g 1; have := g 2; have := g 3; have := g 4; have := g 5; have := g 6; have := g 7
    simp [List.getD] at *
    simp [vals]
    omega
end Go.Proofs.Ytkpmdcmgcdnpfaa

namespace Go.Proofs.Ytkpmdcmgcdnpfaa
open Go.RowKit
set_option linter.unusedVariables false

theorem xor8_valT (x y : Int) : bits .xor .u8 x y = ((BitVec.ofInt 8 x ^^^ BitVec.ofInt 8 y).toNat : Int) := by
  have h : bits .xor .u8 x y = IntKind.u8.wrap ((BitVec.ofInt 8 x ^^^ BitVec.ofInt 8 y).toNat : Int) := rfl
  rw [h]
  have hb := (BitVec.ofInt 8 x ^^^ BitVec.ofInt 8 y).isLt
  generalize (BitVec.ofInt 8 x ^^^ BitVec.ofInt 8 y).toNat = m at hb ⊢
  simp only [IntKind.wrap, IntKind.bits, IntKind.signed]
  simp
  omega
theorem xor8_backT (x y : Int) (h0 : 0 ≤ x) (h1 : x < 256) : bits .xor .u8 (bits .xor .u8 x y) y = x := by
  rw [xor8_valT (bits .xor .u8 x y) y, xor8_valT x y]
  have e : BitVec.ofInt 8 (((BitVec.ofInt 8 x ^^^ BitVec.ofInt 8 y).toNat : Nat) : Int) = BitVec.ofInt 8 x ^^^ BitVec.ofInt 8 y := by
    apply BitVec.eq_of_toNat_eq
    have hb := (BitVec.ofInt 8 x ^^^ BitVec.ofInt 8 y).isLt
    rw [BitVec.toNat_ofInt]
    generalize (BitVec.ofInt 8 x ^^^ BitVec.ofInt 8 y).toNat = m at hb ⊢
    omega
  rw [e, BitVec.xor_assoc, BitVec.xor_self, BitVec.xor_zero, BitVec.toNat_ofInt]
  omega
theorem xl_backT (xs ys : List Int) (h : Bytes xs) : xl (xl xs ys xs.length) ys xs.length = xs := by
  apply List.ext_getElem
  · rw [xl_length]
  · intro j h1 h2
    have e1 : (xl xs ys xs.length).getD j 0 = bits .xor .u8 (xs.getD j 0) (ys.getD j 0) := by
      have : j < (xl xs ys xs.length).length := by rw [xl_length]; exact h2
      rw [List.getD_eq_getElem?_getD, List.getElem?_eq_getElem this]
      simp [xl]
    have e2 : (xl (xl xs ys xs.length) ys xs.length)[j] = bits .xor .u8 ((xl xs ys xs.length).getD j 0) (ys.getD j 0) := by simp [xl]
    have e3 : xs.getD j 0 = xs[j] := by rw [List.getD_eq_getElem?_getD, List.getElem?_eq_getElem h2]; rfl
    have hb := h xs[j] (List.getElem_mem h2)
    rw [e2, e1, e3, xor8_backT _ _ hb.1 hb.2]
theorem overV_backT (k : K4) (num : Int) (xs : List Int) (h : Bytes xs) : overV k num (overV k num xs) = xs := by
  show xl (overV k num xs) (sblk k.b (nonV k num) (((overV k num xs).length + 15) / 16)) (overV k num xs).length = xs
  rw [overV_length]
  exact xl_backT xs _ h
theorem sealV_takeT (k : K4) (num : Int) (hd bd : List Int) : (sealV k num hd bd).take bd.length = overV k num bd := by
  unfold sealV
  rw [List.take_append_of_le_length (by rw [overV_length]; exact Nat.le_refl _), List.take_of_length_le (by rw [overV_length]; exact Nat.le_refl _)]
theorem sealV_dropT (k : K4) (num : Int) (hd bd : List Int) : (sealV k num hd bd).drop bd.length = tagV k.b (nonV k num) hd (overV k num bd) := by
  unfold sealV
  rw [List.drop_append_of_le_length (by rw [overV_length]; exact Nat.le_refl _), List.drop_of_length_le (by rw [overV_length]; exact Nat.le_refl _)]
  rfl
theorem sealV_bytesT (k : K4) (num : Int) (hd bd : List Int) : Bytes (sealV k num hd bd) := by
  intro x hx
  rcases List.mem_append.1 hx with h | h
  · exact xl_bytes _ _ _ x h
  · exact tagV_bytes _ _ _ _ x h

theorem vals_be8 (v : Int) (h0 : 0 ≤ v) (h1 : v ≤ 9223372036854775807) : vals (be v 8) = v := by
  simp only [be, vals, List.nil_append, List.cons_append, List.foldl_cons, List.foldl_nil]
  omega
/-- What TokenCheck answers where its key, address and time may be. -/
def tcR (ks ads : List Int) (t : Int) (xs : List Int) : List Int × Int :=
  if (tkO ks ads xs).2 ≠ 0 ∨ (tkO ks ads xs).1.length < 8 ∨ 16 < (tkO ks ads xs).1.length ∨ 128 ≤ (tkO ks ads xs).1.getD 0 0 ∨ t < vals ((tkO ks ads xs).1.take 8) ∨ 60000000 < t - vals ((tkO ks ads xs).1.take 8) then ([], 13)
  else ((tkO ks ads xs).1.drop 8, 0)
theorem tkO_tok (ks ads : List Int) (t : Int) (os : List Int) (ha : ads.length ≤ 24) (ho : os.length ≤ 8) (bo : Bytes os) : tkO ks ads (tokM ks ads t os) = (tokB t os, 0) := by
  have hl := tokM_length ks ads t os
  have hb := tokB_length t os
  have e : (tokM ks ads t os).length - 8 = (tokB t os).length := by omega
  unfold tkO
  rw [if_neg (by omega), if_neg (by omega), e]
  unfold tokM
  rw [sealV_takeT, sealV_dropT, if_pos rfl, overV_backT _ _ _ (tokB_bytes t os bo)]
theorem tcR_tok (ks ads : List Int) (t t2 : Int) (os : List Int) (ha : ads.length ≤ 24) (ho : os.length ≤ 8) (bo : Bytes os) (h0 : 0 ≤ t) (h1 : t ≤ 1000000000000) (h2 : t ≤ t2) (h3 : t2 ≤ t + 60000000) : tcR ks ads t2 (tokM ks ads t os) = (os, 0) := by
  have hb := tokB_length t os
  have e1 : (tokB t os).take 8 = be t 8 := by unfold tokB; rw [List.take_append_of_le_length (by rw [be_length]; exact Nat.le_refl _), List.take_of_length_le (by rw [be_length]; exact Nat.le_refl _)]
  have e2 : (tokB t os).drop 8 = os := by unfold tokB; rw [List.drop_append_of_le_length (by rw [be_length]; exact Nat.le_refl _), List.drop_of_length_le (by rw [be_length]; exact Nat.le_refl _)]; rfl
  have e3 := vals_be8 t h0 (by omega)
  have e4 : (tokB t os).getD 0 0 < 128 := by
    by_cases h : 128 ≤ (tokB t os).getD 0 0
    · have := vals_high (tokB t os) (tokB_bytes t os bo) (by omega) h
      rw [e1, e3] at this
      omega
    · omega
  unfold tcR
  rw [tkO_tok ks ads t os ha ho bo]
  simp only [e1, e2, e3]
  rw [if_neg (by omega)]
theorem tcR_len (ks ads : List Int) (t : Int) (xs : List Int) : (tcR ks ads t xs).1.length ≤ 1508 := by
  have := tkO_len ks ads xs
  unfold tcR
  split
  · simp
  · simp only [List.length_drop]; omega
theorem tcS_all (ks ads xs : List Int) (t : Int) (w : World) (u0 u1 u3 : Value) (h16 : ks.length = 16) (h24 : ads.length ≤ 24) (ht : 0 ≤ t ∧ t ≤ 1000000000000) (hx : xs.length ≤ 1048576) (b0 : Bytes ks) (b1 : Bytes ads) (b3 : Bytes xs)
    (r0 : Row w .u8 u0 ks) (r1 : Row w .u8 u1 ads) (r3 : Row w .u8 u3 xs) :
    Calls Try.prog 11 #[u0, u1, .int .i64 t, u3] w fun e w' => ∃ r, e = .returned (.tuple #[r, .int .i64 (tcR ks ads t xs).2]) ∧ w'.ownsRow w.heap.size 5 1 r (tcR ks ads t xs).1.length ((tcR ks ads t xs).1.map (Value.int .u8)) ∧ Below w.heap.size w w' := by
  have O := fun (w : World) (uk ua ux : Value) (rk : KRow w uk (keysV ks)) (ra : Row w .u8 ua ads) (rx : Row w .u8 ux xs) => tkO_spec ks ads xs w uk ua ux h16 b0 b1 b3 (by omega) (by omega) rk ra rx
  have lB := tkO_len ks ads xs
  have bB := tkO_bytes ks ads xs
  unfold tcR
  obtain ⟨z, ez⟩ : ∃ z : List Int × Int, z = tkO ks ads xs := ⟨_, rfl⟩
  rw [← ez] at O lB bB ⊢
  clear ez
  obtain ⟨B, c⟩ := z
  simp only at O lB bB ⊢
  obtain ⟨ao0, cp0, rfl⟩ := r0.form
  obtain ⟨ao1, cp1, rfl⟩ := r1.form
  obtain ⟨ao3, cp3, rfl⟩ := r3.form
  replace O := fun (w : World) (uk : Value) (rk : KRow w uk (keysV ks)) (ra : Row w .u8 (.slice ao1 ads.length cp1) ads) (rx : Row w .u8 (.slice ao3 xs.length cp3) xs) => O w uk _ _ rk ra rx
  rw [h16] at r0 ⊢
  by_cases hc : c = 0
  · subst hc
    by_cases h8 : B.length < 8
    · rw [if_pos (by omega)]
      exact tcS_short ao0 ao1 ao3 _ _ cp0 cp1 cp3 _ t ks ads xs B w h24 ht r0 r1 r3 h16 b0 O h8
    · obtain ⟨q, hq⟩ : ∃ q, B.length = 8 + q := ⟨B.length - 8, by omega⟩
      rw [hq] at O
      by_cases hq8 : 8 < q
      · rw [if_pos (by omega)]
        exact tcS_long ao0 ao1 ao3 _ _ cp0 cp1 cp3 _ t ks ads xs B w h24 ht r0 r1 r3 h16 b0 O (by omega) (by omega)
      · by_cases hh : 128 ≤ B.getD 0 0
        · have hv := vals_high B bB (by omega) hh
          rw [if_pos (by omega)]
          exact tcS_high ao0 ao1 ao3 _ _ cp0 cp1 cp3 _ t ks ads xs B w h24 ht r0 r1 r3 h16 b0 O (by omega) ⟨hh, (bB.at 0).2⟩
        · have hv := vals_low B bB (by omega) (by omega)
          by_cases h1 : t < vals (B.take 8)
          · rw [if_pos (by omega)]
            exact tcS_early ao0 ao1 ao3 _ _ cp0 cp1 cp3 _ t ks ads xs B w h24 ht r0 r1 r3 h16 b0 O hq bB (by omega) ⟨(bB.at 0).1, by omega⟩ ⟨h1, hv⟩
          · by_cases h2 : 60000000 < t - vals (B.take 8)
            · rw [if_pos (by omega)]
              exact tcS_late ao0 ao1 ao3 _ _ cp0 cp1 cp3 _ t ks ads xs B w h24 ht r0 r1 r3 h16 b0 O hq bB (by omega) ⟨(bB.at 0).1, by omega⟩ ⟨by omega, h2⟩
            · rw [if_neg (by omega)]
              exact tcS_ok ao0 ao1 ao3 _ _ cp0 cp1 cp3 _ t ks ads xs B w h24 ht r0 r1 r3 h16 b0 O hq bB (by omega) ⟨(bB.at 0).1, by omega⟩ ⟨by omega, by omega⟩
  · have hc' : (c != 0) = true := by simp [hc]
    rw [if_pos (Or.inl hc)]
    exact tcS_code ao0 ao1 ao3 _ _ cp0 cp1 cp3 _ t ks ads xs B c w h24 ht r0 r1 r3 h16 b0 O lB hc'
theorem tcI_all (ks ads xs : List Int) (t : Int) (w : World) (u0 u1 u3 : Value) (h16 : ks.length = 16) (h24 : ads.length ≤ 24) (ht : 0 ≤ t ∧ t ≤ 1000000000000) (hx : xs.length ≤ 1048576) (b0 : Bytes ks) (b1 : Bytes ads) (b3 : Bytes xs)
    (r0 : Row w .u8 u0 ks) (r1 : Row w .u8 u1 ads) (r3 : Row w .u8 u3 xs) :
    Calls Try.prog 8 #[u0, u1, .int .i64 t, u3] w fun e w' => ∃ r, e = .returned (.tuple #[r, .int .i64 (tcR ks ads t xs).2]) ∧ OwnP w' w.heap.size r (tcR ks ads t xs).1.length (tcR ks ads t xs).1 ∧ Below w.heap.size w w' := by
  have O := fun (w : World) (uk ua ux : Value) (rk : KRow w uk (keysV ks)) (ra : Row w .u8 ua ads) (rx : Row w .u8 ux xs) => tkO_impl ks ads xs w uk ua ux h16 b0 b1 b3 (by omega) (by omega) rk ra rx
  have lB := tkO_len ks ads xs
  have bB := tkO_bytes ks ads xs
  unfold tcR
  obtain ⟨z, ez⟩ : ∃ z : List Int × Int, z = tkO ks ads xs := ⟨_, rfl⟩
  rw [← ez] at O lB bB ⊢
  clear ez
  obtain ⟨B, c⟩ := z
  simp only at O lB bB ⊢
  obtain ⟨ao0, cp0, rfl⟩ := r0.form
  obtain ⟨ao1, cp1, rfl⟩ := r1.form
  obtain ⟨ao3, cp3, rfl⟩ := r3.form
  replace O := fun (w : World) (uk : Value) (rk : KRow w uk (keysV ks)) (ra : Row w .u8 (.slice ao1 ads.length cp1) ads) (rx : Row w .u8 (.slice ao3 xs.length cp3) xs) => O w uk _ _ rk ra rx
  rw [h16] at r0 ⊢
  by_cases hc : c = 0
  · subst hc
    by_cases h8 : B.length < 8
    · rw [if_pos (by omega)]
      exact tcI_short ao0 ao1 ao3 _ _ cp0 cp1 cp3 _ t ks ads xs B w h24 ht r0 r1 r3 h16 b0 O h8
    · obtain ⟨q, hq⟩ : ∃ q, B.length = 8 + q := ⟨B.length - 8, by omega⟩
      rw [hq] at O
      by_cases hq8 : 8 < q
      · rw [if_pos (by omega)]
        exact tcI_long ao0 ao1 ao3 _ _ cp0 cp1 cp3 _ t ks ads xs B w h24 ht r0 r1 r3 h16 b0 O hq hq8 (by omega)
      · by_cases hh : 128 ≤ B.getD 0 0
        · have hv := vals_high B bB (by omega) hh
          rw [if_pos (by omega)]
          exact tcI_early ao0 ao1 ao3 _ _ cp0 cp1 cp3 _ t ks ads xs B w h24 ht r0 r1 r3 h16 b0 O hq bB (by omega) (by omega)
        · have hv := vals_low B bB (by omega) (by omega)
          by_cases h1 : t < vals (B.take 8)
          · rw [if_pos (by omega)]
            exact tcI_early ao0 ao1 ao3 _ _ cp0 cp1 cp3 _ t ks ads xs B w h24 ht r0 r1 r3 h16 b0 O hq bB (by omega) h1
          · by_cases h2 : 60000000 < t - vals (B.take 8)
            · rw [if_pos (by omega)]
              exact tcI_late ao0 ao1 ao3 _ _ cp0 cp1 cp3 _ t ks ads xs B w h24 ht r0 r1 r3 h16 b0 O hq bB (by omega) ⟨by omega, h2⟩
            · rw [if_neg (by omega)]
              exact tcI_ok ao0 ao1 ao3 _ _ cp0 cp1 cp3 _ t ks ads xs B w h24 ht r0 r1 r3 h16 b0 O hq bB (by omega) ⟨by omega, by omega⟩
  · have hc' : (c != 0) = true := by simp [hc]
    rw [if_pos (Or.inl hc)]
    exact tcI_code ao0 ao1 ao3 _ _ cp0 cp1 cp3 _ t ks ads xs B c w h24 ht r0 r1 r3 h16 b0 O lB hc'
end Go.Proofs.Ytkpmdcmgcdnpfaa

namespace Go.Proofs.Ytkpmdcmgcdnpfaa
open Go.RowKit
set_option linter.unusedVariables false

/-- The source's state: how many bytes were drawn, and the seed. -/
structure St where
  pos : Int
  seed : Int

def bytV (xs : List Int) (s : St) : Int :=
  if s.pos + 1 ≤ xs.length then xs.getD s.pos.toNat 0
  else if 4000 + 4 * (xs.length : Int) < s.pos + 1 then 0
  else (s.seed * 1103515245 + 12345) % 2147483648 / 65536 % 256
def bytS (xs : List Int) (s : St) : St :=
  ⟨s.pos + 1, if s.pos + 1 ≤ xs.length then (s.seed * 31 + xs.getD s.pos.toNat 0 + 7) % 2147483648
    else if 4000 + 4 * (xs.length : Int) < s.pos + 1 then s.seed
    else (s.seed * 1103515245 + 12345) % 2147483648⟩

/-- The same memory and streams (draws aside). -/
structure Like (w w' : World) : Prop where
  os : w'.os = w.os
  tape : w'.tape = w.tape
  output : w'.output = w.output
  heap : w'.heap = w.heap

set_option maxHeartbeats 1000000 in
theorem byte_in (g b off n cap a : Nat) (sd x : Int) (w : World) (hn : n ≤ 1048576) (ha : a < n) (hs0 : 0 ≤ sd) (hs1 : sd < 2147483648) (hx0 : 0 ≤ x) (hx1 : x < 256)
    (c0 : w.cell? ⟨g, 0, none⟩ = some (.slice (some ⟨b, off, none⟩) n cap)) (c1 : w.cell? ⟨g, 1, none⟩ = some (.int .i64 (a : Int))) (c2 : w.cell? ⟨g, 2, none⟩ = some (.int .i64 sd))
    (f1 : w.frozen? ⟨g, 1, none⟩ = false) (f2 : w.frozen? ⟨g, 2, none⟩ = false) (hbg : b ≠ g) (cx : w.cell? ⟨b, off + a, none⟩ = some (.int .u8 x)) :
    Calls Try.prog 46 #[.pointer (some ⟨g, 0, none⟩)] w fun e w' => e = .returned (.int .i64 x) ∧ Like ((w.setCell ⟨g, 1, none⟩ (.int .i64 ((a : Int) + 1))).setCell ⟨g, 2, none⟩ (.int .i64 ((sd * 31 + x + 7) % 2147483648))) w' := by
  go_enter Try.func46, Try.ntmps46
  go_wp2
  go_quiet (fail)
  go_wp2
  go_region
  go_wp2
  go_quiet (fail)
  go_wp2
  go_ret
  exact ⟨rfl, ⟨rfl, rfl, rfl, rfl⟩⟩

set_option maxHeartbeats 1000000 in
theorem byte_out (g n cap : Nat) (ao : Option Addr) (a sd : Int) (w : World) (hn : n ≤ 1048576) (ha0 : 0 ≤ a) (ha : (n : Int) ≤ a) (ha1 : a ≤ 1099511627776) (hs0 : 0 ≤ sd) (hs1 : sd < 2147483648) (hlim : a + 1 ≤ 4000 + 4 * (n : Int))
    (c0 : w.cell? ⟨g, 0, none⟩ = some (.slice ao n cap)) (c1 : w.cell? ⟨g, 1, none⟩ = some (.int .i64 a)) (c2 : w.cell? ⟨g, 2, none⟩ = some (.int .i64 sd))
    (f1 : w.frozen? ⟨g, 1, none⟩ = false) (f2 : w.frozen? ⟨g, 2, none⟩ = false) :
    Calls Try.prog 46 #[.pointer (some ⟨g, 0, none⟩)] w fun e w' => e = .returned (.int .i64 ((sd * 1103515245 + 12345) % 2147483648 / 65536 % 256)) ∧ Like ((w.setCell ⟨g, 1, none⟩ (.int .i64 (a + 1))).setCell ⟨g, 2, none⟩ (.int .i64 ((sd * 1103515245 + 12345) % 2147483648))) w' := by
  have h1 : decide (a + 1 ≤ (n : Int)) = false := by simp; omega
  have h2 : decide (4000 + 4 * (n : Int) < a + 1) = false := by simp; omega
  go_enter Try.func46, Try.ntmps46
  go_wp2
  go_quiet (fail)
  go_wp2
  go_quiet (fail)
  go_wp2
  go_ret
  exact ⟨rfl, ⟨rfl, rfl, rfl, rfl⟩⟩

set_option maxHeartbeats 1000000 in
theorem byte_end (g n cap : Nat) (ao : Option Addr) (a sd : Int) (w : World) (hn : n ≤ 1048576) (ha0 : 0 ≤ a) (ha1 : a ≤ 1099511627776) (hlim : 4000 + 4 * (n : Int) < a + 1)
    (c0 : w.cell? ⟨g, 0, none⟩ = some (.slice ao n cap)) (c1 : w.cell? ⟨g, 1, none⟩ = some (.int .i64 a)) (f1 : w.frozen? ⟨g, 1, none⟩ = false) :
    Calls Try.prog 46 #[.pointer (some ⟨g, 0, none⟩)] w fun e w' => e = .returned (.int .i64 0) ∧ Like (w.setCell ⟨g, 1, none⟩ (.int .i64 (a + 1))) w' := by
  have h1 : decide (a + 1 ≤ (n : Int)) = false := by simp; omega
  go_enter Try.func46, Try.ntmps46
  go_wp2
  go_quiet (fail)
  go_wp2
  go_quiet (fail)
  go_wp2
  go_ret
  exact ⟨rfl, ⟨rfl, rfl, rfl, rfl⟩⟩
end Go.Proofs.Ytkpmdcmgcdnpfaa

namespace Go.Proofs.Ytkpmdcmgcdnpfaa
open Go.RowKit
set_option linter.unusedVariables false

theorem blk_setCell {w : World} {g : Nat} {c : Array Value} {t : TypeId} {fr : Nat × Nat} (h : w.heap[g]? = some (.cells c t fr)) (o : Nat) (u : Value) : (w.setCell ⟨g, o, none⟩ u).heap[g]? = some (.cells (c.setIfInBounds o u) t fr) := by
  simp only [World.setCell, Array.getElem?_modify, if_true]
  rw [h]
  rfl
theorem blk_cell {w : World} {g : Nat} {c : Array Value} {t : TypeId} {fr : Nat × Nat} (h : w.heap[g]? = some (.cells c t fr)) (o : Nat) : w.cell? ⟨g, o, none⟩ = c[o]? := by
  simp [World.cell?, h]
theorem blk_free {w : World} {g : Nat} {c : Array Value} {t : TypeId} (h : w.heap[g]? = some (.cells c t (0, 0))) (o : Nat) : w.frozen? ⟨g, o, none⟩ = false := by
  simp [World.frozen?, h]

theorem grown_trans {a b c : World} {r : Option Nat} (h : a.grownBy b r) (k : b.grownBy c r) : a.grownBy c r :=
  ⟨k.os.trans h.os, k.tape.trans h.tape, k.output.trans h.output, Nat.le_trans h.size k.size, fun i hi hr => (k.block i (Nat.lt_of_lt_of_le hi h.size) hr).trans (h.block i hi hr)⟩
theorem grown_refl (a : World) (r : Option Nat) : a.grownBy a r := ⟨rfl, rfl, rfl, Nat.le_refl _, fun _ _ _ => rfl⟩
theorem Like.grown {w w' : World} (h : Like w w') (r : Option Nat) : w.grownBy w' r := ⟨h.os, h.tape, h.output, by rw [h.heap]; exact Nat.le_refl _, fun k _ _ => by rw [h.heap]⟩
theorem grown_setCell (w : World) (g o : Nat) (u : Value) : w.grownBy (w.setCell ⟨g, o, none⟩ u) (some g) :=
  ⟨rfl, rfl, rfl, by simp [World.setCell], fun k _ hk => Below.heap_setCell _ _ _ _ (fun e => hk (by rw [e]))⟩
theorem Row.grown {w w' : World} {k : IntKind} {v : Value} {xs : List Int} {r : Option Nat} (h : Row w k v xs) (hg : w.grownBy w' r) (ha : ∀ b off n cap, 0 < n → v = .slice (some ⟨b, off, none⟩) n cap → some b ≠ r) : Row w' k v xs := by
  rcases h with h | ⟨b, off, cap, e, hlt, hcap, hc⟩
  · exact Or.inl h
  · by_cases h0 : xs.length = 0
    · exact Or.inl ⟨List.eq_nil_of_length_eq_zero h0, some ⟨b, off, none⟩, cap, by rw [e, h0]⟩
    · refine Or.inr ⟨b, off, cap, e, Nat.lt_of_lt_of_le hlt hg.size, hcap, fun j hj => ?_⟩
      have hb := hg.block b hlt (ha b off _ cap (by omega) e)
      rw [← hc j hj]
      exact World.cell?_of_block (w := w) hb

/-- The source stands in block g: its code reads as xs, its state is s. -/
structure Drw (w : World) (g : Nat) (v : Value) (xs : List Int) (s : St) : Prop where
  blk : w.heap[g]? = some (.cells #[v, .int .i64 s.pos, .int .i64 s.seed] 50 (0, 0))
  row : Row w .u8 v xs
  apart : ∀ b off n cap, 0 < n → v = .slice (some ⟨b, off, none⟩) n cap → b ≠ g
  bytes : Bytes xs
  len : xs.length ≤ 1048576
  p0 : 0 ≤ s.pos
  s0 : 0 ≤ s.seed
  s1 : s.seed < 2147483648

theorem Drw.kept {w w' : World} {g : Nat} {v : Value} {xs : List Int} {s : St} {r : Option Nat} (h : Drw w g v xs s) (hg : w.grownBy w' r) (h1 : some g ≠ r) (h2 : ∀ b off n cap, 0 < n → v = .slice (some ⟨b, off, none⟩) n cap → some b ≠ r) : Drw w' g v xs s :=
  ⟨(hg.block g (Array.getElem?_eq_some_iff.1 h.blk).1 h1).trans h.blk, h.row.grown hg h2, h.apart, h.bytes, h.len, h.p0, h.s0, h.s1⟩

theorem Drw.form {w : World} {g : Nat} {v : Value} {xs : List Int} {s : St} (h : Drw w g v xs s) :
    w.cell? ⟨g, 0, none⟩ = some v ∧ w.cell? ⟨g, 1, none⟩ = some (.int .i64 s.pos) ∧ w.cell? ⟨g, 2, none⟩ = some (.int .i64 s.seed) ∧ w.frozen? ⟨g, 1, none⟩ = false ∧ w.frozen? ⟨g, 2, none⟩ = false :=
  ⟨by rw [blk_cell h.blk]; rfl, by rw [blk_cell h.blk]; rfl, by rw [blk_cell h.blk]; rfl, blk_free h.blk 1, blk_free h.blk 2⟩

theorem bytV_bd (xs : List Int) (s : St) (hB : Bytes xs) : 0 ≤ bytV xs s ∧ bytV xs s < 256 := by
  unfold bytV
  split
  · exact hB.at _
  · split
    · decide
    · omega
theorem bytS_bd (xs : List Int) (s : St) (h0 : 0 ≤ s.seed) (h1 : s.seed < 2147483648) : 0 ≤ (bytS xs s).seed ∧ (bytS xs s).seed < 2147483648 := by
  unfold bytS
  simp only
  split
  · omega
  · split
    · exact ⟨h0, h1⟩
    · omega
theorem bytS_pos (xs : List Int) (s : St) : (bytS xs s).pos = s.pos + 1 := rfl

theorem drw_store {w w' : World} {g : Nat} {v : Value} {xs : List Int} {s : St} (h : Drw w g v xs s) (p sd : Int) (hp : 0 ≤ p) (h0 : 0 ≤ sd) (h1 : sd < 2147483648)
    (hl : Like ((w.setCell ⟨g, 1, none⟩ (.int .i64 p)).setCell ⟨g, 2, none⟩ (.int .i64 sd)) w') : Drw w' g v xs ⟨p, sd⟩ ∧ w.grownBy w' (some g) := by
  have hg : w.grownBy w' (some g) := grown_trans (grown_trans (grown_setCell w g 1 _) (grown_setCell _ g 2 _)) (hl.grown _)
  refine ⟨⟨?_, h.row.grown hg (fun b off n cap h0 e => fun e' => h.apart b off n cap h0 e (Option.some.inj e')), h.apart, h.bytes, h.len, hp, h0, h1⟩, hg⟩
  rw [hl.heap, blk_setCell (blk_setCell h.blk 1 _) 2 _]
  rfl
theorem drw_store1 {w w' : World} {g : Nat} {v : Value} {xs : List Int} {s : St} (h : Drw w g v xs s) (p : Int) (hp : 0 ≤ p)
    (hl : Like (w.setCell ⟨g, 1, none⟩ (.int .i64 p)) w') : Drw w' g v xs ⟨p, s.seed⟩ ∧ w.grownBy w' (some g) := by
  have hg : w.grownBy w' (some g) := grown_trans (grown_setCell w g 1 _) (hl.grown _)
  refine ⟨⟨?_, h.row.grown hg (fun b off n cap h0 e => fun e' => h.apart b off n cap h0 e (Option.some.inj e')), h.apart, h.bytes, h.len, hp, h.s0, h.s1⟩, hg⟩
  rw [hl.heap, blk_setCell h.blk 1 _]
  rfl

theorem byteC (g : Nat) (v : Value) (xs : List Int) (s : St) (w : World) (h : Drw w g v xs s) (hp : s.pos ≤ 1099511627776) :
    Calls Try.prog 46 #[.pointer (some ⟨g, 0, none⟩)] w fun e w' => e = .returned (.int .i64 (bytV xs s)) ∧ Drw w' g v xs (bytS xs s) ∧ w.grownBy w' (some g) := by
  obtain ⟨c0, c1, c2, f1, f2⟩ := h.form
  have hB := bytS_bd xs s h.s0 h.s1
  have h0 := h.p0
  by_cases hin : s.pos + 1 ≤ xs.length
  · obtain ⟨a, ea⟩ := Int.eq_ofNat_of_zero_le h.p0
    have hn : a < xs.length := by omega
    obtain ⟨b, off, cap, rfl, hb, hc⟩ := h.row.at (by omega)
    have hx := h.bytes.at a
    have e1 : bytV xs s = xs.getD a 0 := by unfold bytV; rw [if_pos hin, ea]; rfl
    have e2 : bytS xs s = ⟨(a : Int) + 1, (s.seed * 31 + xs.getD a 0 + 7) % 2147483648⟩ := by unfold bytS; rw [if_pos hin, ea]; rfl
    rw [e1, e2]
    rw [ea] at c1
    refine (byte_in g b off xs.length cap a s.seed (xs.getD a 0) w h.len hn h.s0 h.s1 hx.1 hx.2 c0 c1 c2 f1 f2 (h.apart _ _ _ _ (by omega) rfl) (hc a hn)).mono ?_
    rintro e w' ⟨rfl, hl⟩
    exact ⟨rfl, drw_store h _ _ (by omega) (by omega) (by omega) hl⟩
  · obtain ⟨ao, cap, hv⟩ := h.row.form
    rw [hv] at c0
    by_cases hlim : 4000 + 4 * (xs.length : Int) < s.pos + 1
    · have e1 : bytV xs s = 0 := by unfold bytV; rw [if_neg hin, if_pos hlim]
      have e2 : bytS xs s = ⟨s.pos + 1, s.seed⟩ := by unfold bytS; rw [if_neg hin, if_pos hlim]
      rw [e1, e2]
      refine (byte_end g xs.length cap ao s.pos s.seed w h.len h.p0 hp hlim c0 c1 f1).mono ?_
      rintro e w' ⟨rfl, hl⟩
      exact ⟨rfl, drw_store1 h _ (by omega) hl⟩
    · have e1 : bytV xs s = (s.seed * 1103515245 + 12345) % 2147483648 / 65536 % 256 := by unfold bytV; rw [if_neg hin, if_neg hlim]
      have e2 : bytS xs s = ⟨s.pos + 1, (s.seed * 1103515245 + 12345) % 2147483648⟩ := by unfold bytS; rw [if_neg hin, if_neg hlim]
      rw [e1, e2]
      refine (byte_out g xs.length cap ao s.pos s.seed w h.len h.p0 (by omega) hp h.s0 h.s1 (by omega) c0 c1 c2 f1 f2).mono ?_
      rintro e w' ⟨rfl, hl⟩
      exact ⟨rfl, drw_store h _ _ (by omega) (by omega) (by omega) hl⟩

/-- One of 0 to n - 1. -/
def nextV (xs : List Int) (n : Int) (s : St) : Int :=
  if n ≤ 1 then 0 else if n ≤ 256 then bytV xs s % n
  else (bytV xs s * 65536 + bytV xs (bytS xs s) * 256 + bytV xs (bytS xs (bytS xs s))) % n
def nextS (xs : List Int) (n : Int) (s : St) : St :=
  if n ≤ 1 then s else if n ≤ 256 then bytS xs s else bytS xs (bytS xs (bytS xs s))
theorem nextV_bd (xs : List Int) (n : Int) (s : St) (hn : 1 ≤ n) : 0 ≤ nextV xs n s ∧ nextV xs n s < n := by
  unfold nextV
  split
  · omega
  · split
    · exact ⟨Int.emod_nonneg _ (by omega), Int.emod_lt_of_pos _ (by omega)⟩
    · exact ⟨Int.emod_nonneg _ (by omega), Int.emod_lt_of_pos _ (by omega)⟩
theorem nextS_pos (xs : List Int) (n : Int) (s : St) : s.pos ≤ (nextS xs n s).pos ∧ (nextS xs n s).pos ≤ s.pos + 3 := by
  unfold nextS
  split
  · omega
  · split
    · simp only [bytS_pos]; omega
    · simp only [bytS_pos]; omega

set_option maxHeartbeats 400000 in
theorem nextC (g : Nat) (v : Value) (xs : List Int) (n : Int) (s : St) (w : World) (h : Drw w g v xs s) (hp : s.pos ≤ 1099511627000) (hn0 : 1 ≤ n) (hn1 : n ≤ 2147483648) :
    Calls Try.prog 29 #[.pointer (some ⟨g, 0, none⟩), .int .i64 n] w fun e w' => e = .returned (.int .i64 (nextV xs n s)) ∧ Drw w' g v xs (nextS xs n s) ∧ w.grownBy w' (some g) := by
  by_cases h1 : n ≤ 1
  · have e1 : nextV xs n s = 0 := by unfold nextV; rw [if_pos h1]
    have e2 : nextS xs n s = s := by unfold nextS; rw [if_pos h1]
    rw [e1, e2]
    have HD : Hid (Drw w g v xs s) := h
    clear h e1 e2
    go_enter Try.func29, Try.ntmps29
    go_wp2
    go_ret
    exact ⟨rfl, HD.out, grown_refl _ _⟩
  · have B1 := byteC g v xs s w h (by omega)
    have x1 := bytV_bd xs s h.bytes
    by_cases h2 : n ≤ 256
    · have e1 : nextV xs n s = bytV xs s % n := by unfold nextV; rw [if_neg h1, if_pos h2]
      have e2 : nextS xs n s = bytS xs s := by unfold nextS; rw [if_neg h1, if_pos h2]
      rw [e1, e2]
      generalize bytV xs s = x at B1 x1
      clear h e1 e2
      go_enter Try.func29, Try.ntmps29
      go_wp2_with (go_at_call 46; refine B1.mono ?_; rintro e w1 ⟨rfl, hd1, hg1⟩)
      go_ret
      exact ⟨rfl, hd1, hg1⟩
    · have e1 : nextV xs n s = (bytV xs s * 65536 + bytV xs (bytS xs s) * 256 + bytV xs (bytS xs (bytS xs s))) % n := by unfold nextV; rw [if_neg h1, if_neg h2]
      have e2 : nextS xs n s = bytS xs (bytS xs (bytS xs s)) := by unfold nextS; rw [if_neg h1, if_neg h2]
      rw [e1, e2]
      have x2 := bytV_bd xs (bytS xs s) h.bytes
      have x3 := bytV_bd xs (bytS xs (bytS xs s)) h.bytes
      have B2 : ∀ w, Drw w g v xs (bytS xs s) → _ := fun w h => byteC g v xs (bytS xs s) w h (by rw [bytS_pos]; omega)
      have B3 : ∀ w, Drw w g v xs (bytS xs (bytS xs s)) → _ := fun w h => byteC g v xs (bytS xs (bytS xs s)) w h (by rw [bytS_pos, bytS_pos]; omega)
      generalize bytV xs s = y1 at B1 x1
      generalize bytV xs (bytS xs s) = y2 at B2 x2
      generalize bytV xs (bytS xs (bytS xs s)) = y3 at B3 x3
      clear h e1 e2
      go_enter Try.func29, Try.ntmps29
      go_wp2_with fail
      go_at_call 46
      refine B1.mono ?_
      rintro e w1 ⟨rfl, hd1, hg1⟩
      go_wp2_with fail
      go_at_call 46
      refine (B2 _ hd1).mono ?_
      rintro e w2 ⟨rfl, hd2, hg2⟩
      go_wp2_with fail
      go_at_call 46
      refine (B3 _ hd2).mono ?_
      rintro e w3 ⟨rfl, hd3, hg3⟩
      go_wp2
      go_ret
      exact ⟨rfl, hd3, grown_trans (grown_trans hg1 hg2) hg3⟩
end Go.Proofs.Ytkpmdcmgcdnpfaa

namespace Go.Proofs.Ytkpmdcmgcdnpfaa
open Go.RowKit
set_option linter.unusedVariables false

theorem chanceC (g : Nat) (v : Value) (xs : List Int) (n : Int) (s : St) (w : World) (h : Drw w g v xs s) (hp : s.pos ≤ 1099511627000) (hn0 : 1 ≤ n) (hn1 : n ≤ 2147483648) :
    Calls Try.prog 28 #[.pointer (some ⟨g, 0, none⟩), .int .i64 n] w fun e w' => e = .returned (.bool (nextV xs n s == n - 1)) ∧ Drw w' g v xs (nextS xs n s) ∧ w.grownBy w' (some g) := by
  have N := nextC g v xs n s w h hp hn0 hn1
  generalize nextV xs n s = x at N
  clear h
  go_enter Try.func28, Try.ntmps28
  go_wp2_with (go_at_call 29; refine N.mono ?_; rintro e w1 ⟨rfl, hd1, hg1⟩)
  go_ret
  exact ⟨rfl, hd1, hg1⟩

def szV (xs : List Int) (m : Int) : Int := if 1 + (xs.length : Int) / 12 ≤ m then 1 + (xs.length : Int) / 12 else m
def tab9 : List Int := [0, 63, 64, 16383, 16384, 1073741823, 1073741824, 4611686018427387903, 4611686018427387902]
def tab4 : List Int := [-1, 4611686018427387904, 9223372036854775807, -9223372036854775808]

/-- What was laid in a new block ahead of the source's step is there behind it. -/
theorem laid_cell {w w' : World} {g B i : Nat} {ts : List Int} {e : TypeId} (hg : (w.alloc (.cells (ts.map (Value.int .i64)).toArray e)).grownBy w' (some g)) (hgB : g < w.heap.size) (hB : B = w.heap.size) (hi : i < ts.length) :
    w'.cell? ⟨B, i, none⟩ = some (.int .i64 (ts.getD i 0)) := by
  subst hB
  have h1 : w'.heap[w.heap.size]? = some (.cells (ts.map (Value.int .i64)).toArray e (0, 0)) := by
    rw [hg.block w.heap.size (by simp) (fun h => by have := Option.some.inj h; omega)]
    exact (MapKept.heap_alloc w _).1
  rw [blk_cell h1]
  simp [List.getD, hi]

def numV (xs : List Int) (s : St) : Int :=
  if nextV xs 12 s = 0 then tab9.getD (nextV xs 9 (nextS xs 12 s)).toNat 0
  else if nextV xs 12 s = 1 then nextV xs 16777216 (nextS xs 12 s) * 65536 + nextV xs 65536 (nextS xs 16777216 (nextS xs 12 s))
  else if nextV xs 12 s = 2 then tab4.getD (nextV xs 4 (nextS xs 12 s)).toNat 0
  else if nextV xs 12 s = 3 ∨ nextV xs 12 s = 4 then nextV xs 20000 (nextS xs 12 s)
  else nextV xs 100 (nextS xs 12 s)
def numS (xs : List Int) (s : St) : St :=
  if nextV xs 12 s = 0 then nextS xs 9 (nextS xs 12 s)
  else if nextV xs 12 s = 1 then nextS xs 65536 (nextS xs 16777216 (nextS xs 12 s))
  else if nextV xs 12 s = 2 then nextS xs 4 (nextS xs 12 s)
  else if nextV xs 12 s = 3 ∨ nextV xs 12 s = 4 then nextS xs 20000 (nextS xs 12 s)
  else nextS xs 100 (nextS xs 12 s)
theorem numS_pos (xs : List Int) (s : St) : s.pos ≤ (numS xs s).pos ∧ (numS xs s).pos ≤ s.pos + 9 := by
  have h1 := nextS_pos xs 12 s
  have h2 := fun n => nextS_pos xs n (nextS xs 12 s)
  have h3 := nextS_pos xs 65536 (nextS xs 16777216 (nextS xs 12 s))
  unfold numS
  split
  · have := h2 9; omega
  · split
    · have := h2 16777216; omega
    · split
      · have := h2 4; omega
      · split
        · have := h2 20000; omega
        · have := h2 100; omega
theorem drw_lt {w : World} {g : Nat} {v : Value} {xs : List Int} {s : St} (h : Drw w g v xs s) : g < w.heap.size := (Array.getElem?_eq_some_iff.1 h.blk).1
theorem drw_alloc {w : World} {g : Nat} {v : Value} {xs : List Int} {s : St} (h : Drw w g v xs s) (o : Obj) : Drw (w.alloc o) g v xs s :=
  h.kept (World.grownBy_alloc w o none) (by simp) (by intros; simp)

end Go.Proofs.Ytkpmdcmgcdnpfaa

namespace Go.Proofs.Ytkpmdcmgcdnpfaa
open Go.RowKit
set_option linter.unusedVariables false

def gdV (xs : List Int) (s : St) : Int := if numV xs s < 0 ∨ 4611686018427387903 < numV xs s then nextV xs 50 (numS xs s) else numV xs s
def gdS (xs : List Int) (s : St) : St := if numV xs s < 0 ∨ 4611686018427387903 < numV xs s then nextS xs 50 (numS xs s) else numS xs s
theorem gdS_pos (xs : List Int) (s : St) : s.pos ≤ (gdS xs s).pos ∧ (gdS xs s).pos ≤ s.pos + 12 := by
  have h1 := numS_pos xs s
  have h2 := nextS_pos xs 50 (numS xs s)
  unfold gdS; split <;> omega

/-- The states behind k good numbers; the numbers. -/
def itS (xs : List Int) (s : St) : Nat → St
  | 0 => s
  | k + 1 => gdS xs (itS xs s k)
def itV (xs : List Int) (s : St) (k : Nat) : Int := gdV xs (itS xs s k)
def lst (N : Nat → Int) (k : Nat) : List Int := (List.range k).map N
theorem lst_length (N : Nat → Int) (k : Nat) : (lst N k).length = k := by simp [lst]
theorem lst_succ (N : Nat → Int) (k : Nat) : lst N (k + 1) = lst N k ++ [N k] := by simp [lst, List.range_succ]
theorem itS_pos (xs : List Int) (s : St) (k : Nat) : s.pos ≤ (itS xs s k).pos ∧ (itS xs s k).pos ≤ s.pos + 12 * k := by
  induction k with
  | zero => simp [itS]
  | succ k ih =>
    have := gdS_pos xs (itS xs s k)
    simp only [itS]
    omega

theorem grown_own {w wr w2 : World} {g : Nat} {r : Option Nat} (h : w.grownBy wr (some g)) (h2 : wr.grownBy w2 r) (hr : ∀ k, r = some k → w.heap.size ≤ k) : w.grownBy w2 (some g) :=
  ⟨h2.os.trans h.os, h2.tape.trans h.tape, h2.output.trans h.output, Nat.le_trans h.size h2.size, fun i hi hg =>
    (h2.block i (Nat.lt_of_lt_of_le hi h.size) (fun e => by have := hr i e.symm; omega)).trans (h.block i hi hg)⟩

/-- Where the code of the source lies: not in a block from 'base' on. -/
def Low (base : Nat) (v : Value) : Prop := ∀ b off n cap, 0 < n → v = .slice (some ⟨b, off, none⟩) n cap → b < base

/-- What one append behind a step of the source does. -/
theorem src_push {w wr w1 w2 : World} {g k : Nat} {c v v' : Value} {xs : List Int} {s' : St} {N : Nat → Int} {o : Obj} (hlow : Low w.heap.size c) (hgl : g < w.heap.size)
    (hown : wr.ownsRow w.heap.size 3 1 v k ((lst N k).map (Value.int .i64))) (hg : w.grownBy wr (some g)) (hg1 : wr.grownBy w1 (some g)) (hd1 : Drw w1 g c xs s')
    (hown2 : w2.ownsRow w.heap.size 3 1 v' (k + 1) ((lst N k).map (Value.int .i64) ++ [Value.int .i64 (N k)])) (hgrow : (w1.alloc o).grownBy w2 v.ownBlock) :
    w2.ownsRow w.heap.size 3 1 v' (k + 1) ((lst N (k + 1)).map (Value.int .i64)) ∧ Drw w2 g c xs s' ∧ w.grownBy w2 (some g) := by
  have hr : ∀ j, v.ownBlock = some j → w.heap.size ≤ j := fun j hj => (hown.lt j hj).1
  refine ⟨by rw [lst_succ, List.map_append]; exact hown2, ?_, ?_⟩
  · refine (drw_alloc hd1 o).kept hgrow (fun e => by have := hr g e.symm; omega) (fun b off n cap h0 e e' => ?_)
    have h1 := hlow b off n cap h0 e
    have h2 := hr b e'.symm
    omega
  · exact grown_own (grown_trans (grown_trans hg hg1) (World.grownBy_alloc w1 o (some g))) hgrow hr

theorem own_step {wr w1 : World} {base e k g : Nat} {v : Value} {xs : List Value} (hown : wr.ownsRow base e 1 v k xs) (hg1 : wr.grownBy w1 (some g)) (hgl : g < base) : w1.ownsRow base e 1 v k xs := by
  refine hown.kept hg1 ?_
  cases hv : v.ownBlock with
  | none => exact Or.inl rfl
  | some j =>
    right
    intro e
    have := (hown.lt j hv).1
    have := Option.some.inj e
    omega

theorem infoInts : (Try.prog.info? 3).map (fun i => (i.zero, i.size, i.bytes)) = some (some (.int .i64 0), 1, 8) := by kernel_rfl

def lsN (xs : List Int) (s : St) : Nat := (nextV xs (szV xs 40 + 1) s).toNat
def lsS (xs : List Int) (s : St) : St := nextS xs (szV xs 40 + 1) s
theorem szV_bd (xs : List Int) : 1 ≤ szV xs 40 ∧ szV xs 40 ≤ 40 := by unfold szV; split <;> omega
theorem lsN_bd (xs : List Int) (s : St) : lsN xs s ≤ 40 ∧ ((lsN xs s : Nat) : Int) = nextV xs (szV xs 40 + 1) s := by
  have h1 := szV_bd xs
  have h2 := nextV_bd xs (szV xs 40 + 1) s (by omega)
  unfold lsN; omega

end Go.Proofs.Ytkpmdcmgcdnpfaa

namespace Go.Proofs.Ytkpmdcmgcdnpfaa
open Go.RowKit
set_option linter.unusedVariables false

/-- The source's states behind k drawn bytes; the bytes. -/
def bysS (xs : List Int) (s : St) : Nat → St
  | 0 => s
  | k + 1 => bytS xs (bysS xs s k)
def bysV (xs : List Int) (s : St) (n : Nat) : List Int := (List.range n).map fun k => bytV xs (bysS xs s k)
theorem bysV_length (xs : List Int) (s : St) (n : Nat) : (bysV xs s n).length = n := by simp [bysV]
theorem bysV_succ (xs : List Int) (s : St) (n : Nat) : bysV xs s (n + 1) = bysV xs s n ++ [bytV xs (bysS xs s n)] := by simp [bysV, List.range_succ]
theorem bysS_pos (xs : List Int) (s : St) (k : Nat) : (bysS xs s k).pos = s.pos + k := by
  induction k with
  | zero => simp [bysS]
  | succ k ih => simp only [bysS, bytS_pos, ih]; omega
theorem bysV_bytes (xs : List Int) (s : St) (n : Nat) (h : Bytes xs) : Bytes (bysV xs s n) := by
  intro x hx
  obtain ⟨j, _, rfl⟩ := List.mem_map.1 hx
  exact bytV_bd xs _ h

theorem src_pushB {w wr w1 w2 : World} {g k : Nat} {c v : Value} {xs : List Int} {s s' : St} {o : Obj} (hlow : Low w.heap.size c) (hgl : g < w.heap.size)
    (hown : wr.ownsRow w.heap.size 5 1 v k ((bysV xs s k).map (Value.int .u8))) (hg : w.grownBy wr (some g)) (hg1 : wr.grownBy w1 (some g)) (hd1 : Drw w1 g c xs s') (hgrow : (w1.alloc o).grownBy w2 v.ownBlock) :
    Drw w2 g c xs s' ∧ w.grownBy w2 (some g) := by
  have hr : ∀ j, v.ownBlock = some j → w.heap.size ≤ j := fun j hj => (hown.lt j hj).1
  refine ⟨?_, ?_⟩
  · refine (drw_alloc hd1 o).kept hgrow (fun e => by have := hr g e.symm; omega) (fun b off n cap h0 e e' => ?_)
    have h1 := hlow b off n cap h0 e
    have h2 := hr b e'.symm
    omega
  · exact grown_own (grown_trans (grown_trans hg hg1) (World.grownBy_alloc w1 o (some g))) hgrow hr

set_option maxHeartbeats 1000000 in
theorem bytesC (g : Nat) (c : Value) (xs : List Int) (s : St) (n : Nat) (w : World) (h : Drw w g c xs s) (hlow : Low w.heap.size c) (hp : s.pos ≤ 1099511500000) (hn : n ≤ 65536) :
    Calls Try.prog 31 #[.pointer (some ⟨g, 0, none⟩), .int .i64 (n : Int)] w fun e w' => ∃ r, e = .returned r ∧ w'.ownsRow w.heap.size 5 1 r n ((bysV xs s n).map (Value.int .u8)) ∧ Drw w' g c xs (bysS xs s n) ∧ w.grownBy w' (some g) := by
  have hgl := drw_lt h
  have hB := h.bytes
  have HG : Hid (∀ (k : Nat) (wr : World), k ≤ 65536 → Drw wr g c xs (bysS xs s k) → Calls Try.prog 46 #[.pointer (some ⟨g, 0, none⟩)] wr fun e w' => e = .returned (.int .i64 (bytV xs (bysS xs s k))) ∧ Drw w' g c xs (bysS xs s (k + 1)) ∧ wr.grownBy w' (some g)) :=
    fun k wr hk hd => byteC g c xs (bysS xs s k) wr hd (by rw [bysS_pos]; omega)
  have HD : Hid _ := And.intro h (And.intro hlow hB)
  clear h hlow hB
  go_enter Try.func31, Try.ntmps31
  go_wp2
  go_loopw [5, 6] (fun v i wr => ∃ k : Nat, k ≤ n ∧ i = .int .i64 (k : Int) ∧ wr.ownsRow w.heap.size 5 1 v k ((bysV xs s k).map (Value.int .u8)) ∧ Drw wr g c xs (bysS xs s k) ∧ w.grownBy wr (some g)) (fun _ i _ => n - (intOf i).toNat)
  case atStart => exact ⟨0, by omega, rfl, World.ownsRow_lit _ #[] 0 (Nat.le_refl _) (by decide) rfl, drw_alloc HD.out.1 _, World.grownBy_alloc w _ (some g)⟩
  case round =>
    obtain ⟨k, hk, rfl, hown, hd, hg⟩ := hrel
    by_cases hlt : k < n
    · have C := HG.out k wr (by omega) hd
      have hx := bytV_bd xs (bysS xs s k) HD.out.2.2
      obtain ⟨x, ex⟩ : ∃ x, x = bytV xs (bysS xs s k) := ⟨_, rfl⟩
      rw [← ex] at C hx
      have EX : Hid (x = bytV xs (bysS xs s k)) := ex
      have HO : Hid _ := And.intro hown (And.intro hd hg)
      clear ex hown hd hg
      go_wp2_with fail
      go_at_call 46
      refine C.mono ?_
      rintro e w1 ⟨rfl, hd1, hg1⟩
      have HS : Hid _ := And.intro hd1 hg1
      clear hd1 hg1 C
      have oo : Hid ((w1.alloc (.cells #[.int .u8 x] 5)).ownsRow w.heap.size 5 1 _ k ((bysV xs s k).map (Value.int .u8))) := (own_step HO.out.1 HS.out.2 hgl).alloc _
      have hb1 : w.heap.size ≤ (w1.alloc (.cells #[.int .u8 x] 5)).heap.size := by have a := HO.out.2.2.size; have b := HS.out.2.size; simp; omega
      go_wp2_with (at_builtin; refine wpList_append_row rfl (.tmp 13) (.tmp 17) rfl w.heap.size _ k (bysV xs s k) rfl oo.out _ [x] rfl (one_byte w1 x) (by simp; omega) hb1 ?_; intro v3 w3 o3 g3)
      have P := src_pushB (s := s) HD.out.2.1 hgl HO.out.1 HO.out.2.2 HS.out.2 HS.out.1 g3
      have HR : Hid _ := And.intro o3 P
      clear o3 g3 P
      go_wp2
      go_roundw
      case rel =>
        refine ⟨k + 1, by omega, by go_num, ?_, HR.out.2.1, HR.out.2.2⟩
        rw [bysV_succ, ← EX.out]
        exact HR.out.1
      case measure => simp [intOf]; omega
    · obtain rfl : k = n := by omega
      have HR : Hid _ := And.intro hown (And.intro hd hg)
      clear hown hd hg
      go_wp2
      go_ret
      exact ⟨_, rfl, HR.out.1, HR.out.2.1, HR.out.2.2⟩
end Go.Proofs.Ytkpmdcmgcdnpfaa

namespace Go.Proofs.Ytkpmdcmgcdnpfaa
open Go.RowKit
set_option linter.unusedVariables false

def stZ (xs : List Int) : St := ⟨0, (xs.length : Int) % 1000⟩

theorem sourceC (v : Value) (xs : List Int) (w : World) (hrow : Row w .u8 v xs) (hB : Bytes xs) (hl : xs.length ≤ 1048576) :
    Calls Try.prog 13 #[v] w fun e w' => e = .returned (.pointer (some ⟨w.heap.size, 0, none⟩)) ∧ w' = w.alloc (.cells #[v, .int .i64 0, .int .i64 ((xs.length : Int) % 1000)] 50) := by
  obtain ⟨ao, cap, rfl⟩ := hrow.form
  clear hrow hB
  generalize xs.length = n at *
  go_enter Try.func13, Try.ntmps13
  go_wp2
  go_ret
  exact ⟨rfl, rfl⟩

theorem drw_new {w : World} {v : Value} {xs : List Int} (hrow : Row w .u8 v xs) (hB : Bytes xs) (hl : xs.length ≤ 1048576) :
    Drw (w.alloc (.cells #[v, .int .i64 0, .int .i64 ((xs.length : Int) % 1000)] 50)) w.heap.size v xs (stZ xs) := by
  refine ⟨(MapKept.heap_alloc w _).1, hrow.grown (World.grownBy_alloc w _ none) (by intros; simp), ?_, hB, hl, Int.le_refl 0, by show 0 ≤ (xs.length : Int) % 1000; omega, by show (xs.length : Int) % 1000 < 2147483648; omega⟩
  intro b off n cap h0 e
  rcases hrow with ⟨rfl, ao, cap', e'⟩ | ⟨b', off', cap', e', hb, _⟩
  · rw [e] at e'; cases e'; omega
  · rw [e] at e'; cases e'; omega
theorem grown_belowS {w w1 w2 : World} {o : Obj} (h1 : w1 = w.alloc o) (h2 : w1.grownBy w2 (some w.heap.size)) : Below w.heap.size w w2 := by
  subst h1
  refine ⟨h2.os, h2.tape, h2.output, ?_, fun k hk => ?_⟩
  · have := h2.size; simp at this; omega
  · rw [h2.block k (by simp; omega) (fun e => by have := Option.some.inj e; omega)]
    exact Below.heap_alloc w o k hk

end Go.Proofs.Ytkpmdcmgcdnpfaa

namespace Go.Proofs.Ytkpmdcmgcdnpfaa
open Go.RowKit
set_option linter.unusedVariables false

/-- The source stands, at whatever state. -/
def Dt (W : World) (g : Nat) (c : Value) (xs : List Int) (p : Int) : Prop := Low g c ∧ ∃ s, Drw W g c xs s ∧ s.pos ≤ p
theorem Dt.lt {W : World} {g : Nat} {c : Value} {xs : List Int} {p : Int} (h : Dt W g c xs p) : g < W.heap.size := by
  obtain ⟨_, s, hd, _⟩ := h
  exact drw_lt hd
theorem Dt.mono {W : World} {g : Nat} {c : Value} {xs : List Int} {p q : Int} (h : Dt W g c xs p) (hq : p ≤ q) : Dt W g c xs q := by
  obtain ⟨l, s, hd, hp⟩ := h
  exact ⟨l, s, hd, Int.le_trans hp hq⟩
theorem Dt.alloc {W : World} {g : Nat} {c : Value} {xs : List Int} {p : Int} (h : Dt W g c xs p) (o : Obj) : Dt (W.alloc o) g c xs p := by
  obtain ⟨l, s, hd, hp⟩ := h
  exact ⟨l, s, drw_alloc hd o, hp⟩
theorem Dt.set {W : World} {g b i : Nat} {c u : Value} {xs : List Int} {p : Int} (h : Dt W g c xs p) (hb : g < b) : Dt (W.setCell ⟨b, i, none⟩ u) g c xs p := by
  obtain ⟨l, s, hd, hp⟩ := h
  exact ⟨l, s, hd.kept (grown_setCell W b i u) (fun e => by have := Option.some.inj e; omega) (fun b' off n cap h0 e e' => by have := l b' off n cap h0 e; have := Option.some.inj e'; omega), hp⟩
theorem grownT_set {w wx : World} {g b i : Nat} {u : Value} (h : w.grownBy wx (some g)) (hb : w.heap.size ≤ b) : w.grownBy (wx.setCell ⟨b, i, none⟩ u) (some g) :=
  grown_own h (grown_setCell wx b i u) (fun k e => by have := Option.some.inj e; omega)
theorem Dt.row {W W' : World} {g : Nat} {c v : Value} {xs ys : List Int} {p : Int} (hd : Dt W g c xs p) (h : Row W .u8 v ys) (gr : W.grownBy W' (some g)) : Row W' .u8 v ys := by
  obtain ⟨_, s, hd, _⟩ := hd
  rcases h with h | ⟨b, off, cap, rfl, hb, hcap, hc⟩
  · exact Or.inl h
  · by_cases h0 : 0 < ys.length
    · have hne : b ≠ g := by
        intro e
        subst e
        have h1 := hc 0 h0
        rw [Nat.add_zero] at h1
        have h2 : W.cell? ⟨b, off, none⟩ = (#[c, .int .i64 s.pos, .int .i64 s.seed] : Array Value)[off]? := by simp [World.cell?, hd.blk]
        rw [h2] at h1
        obtain ⟨ao, cp, ec⟩ := hd.row.form
        match off, h1 with
        | 0, h1 => rw [ec] at h1; simp at h1
        | 1, h1 => simp at h1
        | 2, h1 => simp at h1
        | o + 3, h1 => simp at h1
      have hq := gr.block b hb (fun e => hne (Option.some.inj e))
      refine Or.inr ⟨b, off, cap, rfl, Nat.lt_of_lt_of_le hb gr.size, hcap, fun j hj => ?_⟩
      have e : W'.cell? ⟨b, off + j, none⟩ = W.cell? ⟨b, off + j, none⟩ := by simp [World.cell?, hq]
      rw [e]
      exact hc j hj
    · have e : ys = [] := List.eq_nil_of_length_eq_zero (by omega)
      subst e
      exact Or.inl ⟨rfl, _, _, rfl⟩
theorem blk_drawnT {W W' : World} {g b : Nat} {o : Obj} (h : W.heap[b]? = some o) (gr : W.grownBy W' (some g)) (hb : b ≠ g) : W'.heap[b]? = some o :=
  (gr.block b (Array.getElem?_eq_some_iff.1 h).1 (fun e => hb (Option.some.inj e))).trans h
theorem blk_allocT {W : World} {b : Nat} {o : Obj} (h : W.heap[b]? = some o) (o2 : Obj) : (W.alloc o2).heap[b]? = some o :=
  (Below.heap_alloc _ _ _ (Array.getElem?_eq_some_iff.1 h).1).trans h
theorem nextT (g : Nat) (c : Value) (xs : List Int) (p n : Int) (W : World) (h : Dt W g c xs p) (hp : p ≤ 1000000) (h1 : 1 ≤ n) (h2 : n ≤ 2147483648) :
    Calls Try.prog 29 #[.pointer (some ⟨g, 0, none⟩), .int .i64 n] W fun e w' => ∃ k : Int, e = .returned (.int .i64 k) ∧ 0 ≤ k ∧ k < n ∧ Dt w' g c xs (p + 3) ∧ W.grownBy w' (some g) := by
  obtain ⟨l, s, hd, hs⟩ := h
  refine (nextC g c xs n s W hd (by omega) h1 h2).mono ?_
  rintro e w' ⟨rfl, d, gr⟩
  have b := nextV_bd xs n s h1
  have q := nextS_pos xs n s
  exact ⟨_, rfl, b.1, b.2, ⟨l, _, d, by omega⟩, gr⟩
theorem bytesT (g : Nat) (c : Value) (xs : List Int) (p : Int) (k : Int) (W : World) (h : Dt W g c xs p) (hp : p ≤ 1000000) (h0 : 0 ≤ k) (h1 : k ≤ 1000) :
    Calls Try.prog 31 #[.pointer (some ⟨g, 0, none⟩), .int .i64 k] W fun e w' => ∃ ao cap ys, e = .returned (.slice ao ys.length cap) ∧ Row w' .u8 (.slice ao ys.length cap) ys ∧ (ys.length : Int) = k ∧ Bytes ys ∧ Dt w' g c xs (p + 1000) ∧ W.grownBy w' (some g) := by
  have hgl := h.lt
  obtain ⟨l, s, hd, hs⟩ := h
  obtain ⟨n, rfl⟩ := Int.eq_ofNat_of_zero_le h0
  refine (bytesC g c xs s n W hd (fun b off m cap a e => by have := l b off m cap a e; omega) (by omega) (by omega)).mono ?_
  rintro e w' ⟨r, rfl, o, d, gr⟩
  have q := bysS_pos xs s n
  have R : Row w' .u8 r (bysV xs s n) := by
    have o' : w'.ownsRow W.heap.size 5 1 r (bysV xs s n).length ((bysV xs s n).map (Value.int .u8)) := by rw [bysV_length]; exact o
    exact row_of_owns o'
  obtain ⟨ao, cap, rfl⟩ := R.form
  exact ⟨ao, cap, bysV xs s n, rfl, R, by rw [bysV_length], bysV_bytes xs s n hd.bytes, ⟨l, _, d, by omega⟩, gr⟩
theorem chanceT (g : Nat) (c : Value) (xs : List Int) (p n : Int) (W : World) (h : Dt W g c xs p) (hp : p ≤ 1000000) (h1 : 1 ≤ n) (h2 : n ≤ 2147483648) :
    Calls Try.prog 28 #[.pointer (some ⟨g, 0, none⟩), .int .i64 n] W fun e w' => ∃ k : Bool, e = .returned (.bool k) ∧ Dt w' g c xs (p + 3) ∧ W.grownBy w' (some g) := by
  obtain ⟨l, s, hd, hs⟩ := h
  refine (chanceC g c xs n s W hd (by omega) h1 h2).mono ?_
  rintro e w' ⟨rfl, d, gr⟩
  have q := nextS_pos xs n s
  exact ⟨_, rfl, ⟨l, _, d, by omega⟩, gr⟩
theorem grownT_below {w w' : World} (h : Below w.heap.size w w') (r : Option Nat) : w.grownBy w' r := ⟨h.os, h.tape, h.output, h.size, fun k hk _ => h.block k hk⟩
theorem Dt.kept {W W' : World} {g : Nat} {c : Value} {xs : List Int} {p : Int} (h : Dt W g c xs p) (hb : Below W.heap.size W W') : Dt W' g c xs p := by
  obtain ⟨l, s, hd, hp⟩ := h
  exact ⟨l, s, hd.kept (grownT_below hb none) (by simp) (by intros; simp), hp⟩
theorem dt_new {w : World} {v : Value} {xs : List Int} (hrow : Row w .u8 v xs) (hB : Bytes xs) (hl : xs.length ≤ 1048576) :
    Dt (w.alloc (.cells #[v, .int .i64 0, .int .i64 ((xs.length : Int) % 1000)] 50)) w.heap.size v xs 0 := by
  refine ⟨?_, _, drw_new hrow hB hl, Int.le_refl 0⟩
  intro b off n cap h0 e
  rcases hrow with ⟨rfl, ao, cap', e'⟩ | ⟨b', off', cap', e', hb, _⟩
  · rw [e] at e'; cases e'; omega
  · rw [e] at e'; cases e'; omega

/-- The table of odd times. -/
def oddO : Obj := .cells #[.int .i64 0, .int .i64 1, .int .i64 (-1), .int .i64 1000000000000, .int .i64 1000000000001, .int .i64 9223372036854775807] 3
set_option maxHeartbeats 1000000 in
theorem oddT (g : Nat) (c : Value) (xs : List Int) (p : Int) (W : World) (h : Dt W g c xs p) (hp : p ≤ 900000) :
    Calls Try.prog 30 #[.pointer (some ⟨g, 0, none⟩)] W fun e w' => ∃ k : Int, e = .returned (.int .i64 k) ∧ -1 ≤ k ∧ k ≤ 9223372036854775807 ∧ Dt w' g c xs (p + 3) ∧ W.grownBy w' (some g) := by
  have HD : Hid _ := And.intro (h.alloc oddO) (And.intro h.lt hp)
  clear h hp
  go_enter Try.func30, Try.ntmps30
  go_wp2_with fail
  go_at_call 29
  refine (nextT g c xs p 6 _ HD.out.1 (by have := HD.out.2.2; omega) (by decide) (by decide)).mono ?_
  rintro e w2 ⟨k, rfl, k0, k1, D2, G2⟩
  have B2 : w2.heap[W.heap.size]? = some oddO := blk_drawnT (heap_alloc_new W oddO) G2 (by have := HD.out.2.1; omega)
  have G3 : W.grownBy w2 (some g) := grown_trans (grownT_below ((Below.refl _ _).alloc (Nat.le_refl _) oddO) (some g)) G2
  have C (i : Nat) : w2.cell? ⟨W.heap.size, i, none⟩ = (#[.int .i64 0, .int .i64 1, .int .i64 (-1), .int .i64 1000000000000, .int .i64 1000000000001, .int .i64 9223372036854775807] : Array Value)[i]? := by simp [World.cell?, B2, oddO]
  have c0 : w2.cell? ⟨W.heap.size, 0, none⟩ = some (.int .i64 0) := C 0
  have c1 : w2.cell? ⟨W.heap.size, 1, none⟩ = some (.int .i64 1) := C 1
  have c2 : w2.cell? ⟨W.heap.size, 2, none⟩ = some (.int .i64 (-1)) := C 2
  have c3 : w2.cell? ⟨W.heap.size, 3, none⟩ = some (.int .i64 1000000000000) := C 3
  have c4 : w2.cell? ⟨W.heap.size, 4, none⟩ = some (.int .i64 1000000000001) := C 4
  have c5 : w2.cell? ⟨W.heap.size, 5, none⟩ = some (.int .i64 9223372036854775807) := C 5
  have H2 : Hid _ := And.intro D2 G3
  clear C B2 G2 G3 D2
  obtain rfl | rfl | rfl | rfl | rfl | rfl : k = 0 ∨ k = 1 ∨ k = 2 ∨ k = 3 ∨ k = 4 ∨ k = 5 := by omega
  all_goals (
    go_wp2
    go_ret
    exact ⟨_, rfl, by decide, by decide, H2.out.1, H2.out.2⟩)
/-- What is drawn for a token. -/
def TkDr (w' : World) (r : Value) : Prop := ∃ a0 a1 a3 p0 p1 p3 ks ads os, ∃ t : Int, r = .tuple #[.slice a0 (List.length ks) p0, .slice a1 (List.length ads) p1, .int .i64 t, .slice a3 (List.length os) p3] ∧ Row w' .u8 (.slice a0 ks.length p0) ks ∧ Row w' .u8 (.slice a1 ads.length p1) ads ∧ Row w' .u8 (.slice a3 os.length p3) os ∧ Bytes ks ∧ Bytes ads ∧ Bytes os ∧ ks.length ≤ 20 ∧ ads.length ≤ 26 ∧ os.length ≤ 10 ∧ -1 ≤ t ∧ t ≤ 9223372036854775807
set_option maxRecDepth 20000 in
set_option maxHeartbeats 4000000 in
theorem drawTokT (g : Nat) (c : Value) (xs : List Int) (W : World) (h : Dt W g c xs 0) :
    Calls Try.prog 12 #[.pointer (some ⟨g, 0, none⟩)] W fun e w' => ∃ r, e = .returned r ∧ TkDr w' r ∧ W.grownBy w' (some g) := by
  have HD : Hid _ := And.intro h True.intro
  clear h
  go_enter Try.func12, Try.ntmps12
  go_wp2_with fail
  go_at_call 28
  refine (chanceT g c xs 0 20 _ HD.out.1 (by decide) (by decide) (by decide)).mono ?_
  rintro e w1 ⟨b1, rfl, D1, G1⟩
  have H1 : Hid _ := And.intro D1 G1
  clear D1 G1
  cases b1 with
  | true =>
    go_wp2_with fail
    go_at_call 29
    refine (nextT g c xs (0 + 3) 20 _ H1.out.1 (by decide) (by decide) (by decide)).mono ?_
    rintro e w2 ⟨n, rfl, hn0, hn1, D2, G2⟩
    have HC : Hid _ := And.intro D2 (grown_trans H1.out.2 G2)
    clear D2 G2
    go_wp2_with fail
    go_at_call 29
    refine (nextT g c xs (0 + 3 + 3) 16777216 _ HC.out.1 (by decide) (by decide) (by decide)).mono ?_
    rintro e w3 ⟨t3, rfl, t30, t31, D3, G3⟩
    have H3 : Hid _ := And.intro D3 (grown_trans HC.out.2 G3)
    clear D3 G3
    go_wp2_with fail
    go_at_call 28
    refine (chanceT g c xs ((0 + 3 + 3) + 3) 15 _ H3.out.1 (by decide) (by decide) (by decide)).mono ?_
    rintro e w4 ⟨b4, rfl, D4, G4⟩
    have H4 : Hid _ := And.intro D4 (grown_trans H3.out.2 G4)
    clear D4 G4
    cases b4 with
    | true =>
      go_wp2_with fail
      go_at_call 30
      refine (oddT g c xs ((0 + 3 + 3) + 3 + 3) _ H4.out.1 (by decide)).mono ?_
      rintro e w5 ⟨tt, rfl, tt0, tt1, D5, G5⟩
      have H5 : Hid _ := And.intro D5 (grown_trans H4.out.2 G5)
      clear D5 G5
      go_wp2_with fail
      go_at_call 31
      refine (bytesT g c xs ((0 + 3 + 3) + 3 + 3 + 3) n _ H5.out.1 (by decide) hn0 (by omega)).mono ?_
      rintro e w6 ⟨a0, p0, ks, rfl, R0, l0, B0, D6, G6⟩
      obtain ⟨n0, en0⟩ : ∃ n, n = ks.length := ⟨_, rfl⟩
      rw [← en0] at R0 l0 ⊢
      have H6 : Hid _ := And.intro D6 (And.intro (grown_trans H5.out.2 G6) (And.intro R0 (And.intro B0 (And.intro en0 l0))))
      clear D6 G6 R0 B0 en0 l0
      go_wp2_with fail
      go_at_call 29
      refine (nextT g c xs (((0 + 3 + 3) + 3 + 3 + 3) + 1000) 20 _ H6.out.1 (by decide) (by decide) (by decide)).mono ?_
      rintro e w7 ⟨k7, rfl, k70, k71, D7, G7⟩
      have H7 : Hid _ := And.intro D7 (And.intro (grown_trans H6.out.2.1 G7) (H6.out.1.row H6.out.2.2.1 G7))
      clear D7 G7
      obtain ⟨m7, em7⟩ : ∃ m, m = Int.tdiv k7 19 := ⟨_, rfl⟩
      have m70 : 0 ≤ m7 ∧ m7 ≤ 1 := by rw [em7, Int.tdiv_eq_ediv_of_nonneg k70]; omega
      go_wp2_with fail
      go_at_call 29
      refine (nextT g c xs ((((0 + 3 + 3) + 3 + 3 + 3) + 1000) + 3) _ _ H7.out.1 (by decide) (by first | omega | (rw [← em7]; omega)) (by first | omega | (rw [← em7]; omega))).mono ?_
      rintro e w8 ⟨k8, rfl, k80, k81, D8, G8⟩
      have k82 : k8 ≤ 26 := by first | omega | (rw [← em7] at k81; omega)
      have H8 : Hid _ := And.intro D8 (And.intro (grown_trans H7.out.2.1 G8) (H7.out.1.row H7.out.2.2 G8))
      clear D8 G8 k81 em7 m70
      go_wp2_with fail
      go_at_call 31
      refine (bytesT g c xs ((((0 + 3 + 3) + 3 + 3 + 3) + 1000) + 3 + 3) k8 _ H8.out.1 (by decide) k80 (by omega)).mono ?_
      rintro e w9 ⟨a1, p1, ads, rfl, R1, l1, B1, D9, G9⟩
      obtain ⟨n1, en1⟩ : ∃ n, n = ads.length := ⟨_, rfl⟩
      rw [← en1] at R1 l1 ⊢
      have H9 : Hid _ := And.intro D9 (And.intro (grown_trans H8.out.2.1 G9) (And.intro (H8.out.1.row H8.out.2.2 G9) (And.intro R1 (And.intro B1 (And.intro en1 l1)))))
      clear D9 G9 R1 B1 en1 l1
      go_wp2_with fail
      go_at_call 29
      refine (nextT g c xs ((((0 + 3 + 3) + 3 + 3 + 3) + 1000) + 3 + 3 + 1000) 20 _ H9.out.1 (by decide) (by decide) (by decide)).mono ?_
      rintro e w10 ⟨k10, rfl, k100, k101, D10, G10⟩
      have H10 : Hid _ := And.intro D10 (And.intro (grown_trans H9.out.2.1 G10) (And.intro (H9.out.1.row H9.out.2.2.1 G10) (H9.out.1.row H9.out.2.2.2.1 G10)))
      clear D10 G10
      obtain ⟨m10, em10⟩ : ∃ m, m = Int.tdiv k10 19 := ⟨_, rfl⟩
      have m100 : 0 ≤ m10 ∧ m10 ≤ 1 := by rw [em10, Int.tdiv_eq_ediv_of_nonneg k100]; omega
      go_wp2_with fail
      go_at_call 29
      refine (nextT g c xs (((((0 + 3 + 3) + 3 + 3 + 3) + 1000) + 3 + 3 + 1000) + 3) _ _ H10.out.1 (by decide) (by first | omega | (rw [← em10]; omega)) (by first | omega | (rw [← em10]; omega))).mono ?_
      rintro e w11 ⟨k11, rfl, k110, k111, D11, G11⟩
      have k112 : k11 ≤ 10 := by first | omega | (rw [← em10] at k111; omega)
      have H11 : Hid _ := And.intro D11 (And.intro (grown_trans H10.out.2.1 G11) (And.intro (H10.out.1.row H10.out.2.2.1 G11) (H10.out.1.row H10.out.2.2.2 G11)))
      clear D11 G11 k111 em10 m100
      go_wp2_with fail
      go_at_call 31
      refine (bytesT g c xs (((((0 + 3 + 3) + 3 + 3 + 3) + 1000) + 3 + 3 + 1000) + 3 + 3) k11 _ H11.out.1 (by decide) k110 (by omega)).mono ?_
      rintro e w12 ⟨a3, p3, os, rfl, R3, l3, B3, D12, G12⟩
      obtain ⟨n3, en3⟩ : ∃ n, n = os.length := ⟨_, rfl⟩
      rw [← en3] at R3 l3 ⊢
      have H12 : Hid _ := And.intro (grown_trans H11.out.2.1 G12) (And.intro (H11.out.1.row H11.out.2.2.1 G12) (And.intro (H11.out.1.row H11.out.2.2.2 G12) (And.intro R3 (And.intro B3 (And.intro en3 l3)))))
      clear D12 G12 R3 B3 en3 l3
      go_wp2
      refine bodyPost_ret (v := .tuple #[.slice a0 n0 p0, .slice a1 n1 p1, .int .i64 tt, .slice a3 n3 p3]) (by simp [results, Try.results12, go_sem]) rfl ?_
      refine ⟨_, rfl, ⟨a0, a1, a3, p0, p1, p3, ks, ads, os, tt, ?_, ?_, ?_, ?_, H6.out.2.2.2.1, H9.out.2.2.2.2.1, H12.out.2.2.2.2.1, ?_, ?_, ?_, tt0, tt1⟩, H12.out.1⟩
      · rw [← H6.out.2.2.2.2.1, ← H9.out.2.2.2.2.2.1, ← H12.out.2.2.2.2.2.1]
      · rw [← H6.out.2.2.2.2.1]; exact H12.out.2.1
      · rw [← H9.out.2.2.2.2.2.1]; exact H12.out.2.2.1
      · rw [← H12.out.2.2.2.2.2.1]; exact H12.out.2.2.2.1
      · have := H6.out.2.2.2.2.2; have := H6.out.2.2.2.2.1; omega
      · have := H9.out.2.2.2.2.2.2; have := H9.out.2.2.2.2.2.1; omega
      · have := H12.out.2.2.2.2.2.2; have := H12.out.2.2.2.2.2.1; omega
    | false =>
      have tt0 : -1 ≤ t3 * 40 := by omega
      have tt1 : t3 * 40 ≤ 9223372036854775807 := by omega
      go_wp2_with fail
      go_at_call 31
      refine (bytesT g c xs ((0 + 3 + 3) + 3 + 3) n _ H4.out.1 (by decide) hn0 (by omega)).mono ?_
      rintro e w6 ⟨a0, p0, ks, rfl, R0, l0, B0, D6, G6⟩
      obtain ⟨n0, en0⟩ : ∃ n, n = ks.length := ⟨_, rfl⟩
      rw [← en0] at R0 l0 ⊢
      have H6 : Hid _ := And.intro D6 (And.intro (grown_trans H4.out.2 G6) (And.intro R0 (And.intro B0 (And.intro en0 l0))))
      clear D6 G6 R0 B0 en0 l0
      go_wp2_with fail
      go_at_call 29
      refine (nextT g c xs (((0 + 3 + 3) + 3 + 3) + 1000) 20 _ H6.out.1 (by decide) (by decide) (by decide)).mono ?_
      rintro e w7 ⟨k7, rfl, k70, k71, D7, G7⟩
      have H7 : Hid _ := And.intro D7 (And.intro (grown_trans H6.out.2.1 G7) (H6.out.1.row H6.out.2.2.1 G7))
      clear D7 G7
      obtain ⟨m7, em7⟩ : ∃ m, m = Int.tdiv k7 19 := ⟨_, rfl⟩
      have m70 : 0 ≤ m7 ∧ m7 ≤ 1 := by rw [em7, Int.tdiv_eq_ediv_of_nonneg k70]; omega
      go_wp2_with fail
      go_at_call 29
      refine (nextT g c xs ((((0 + 3 + 3) + 3 + 3) + 1000) + 3) _ _ H7.out.1 (by decide) (by first | omega | (rw [← em7]; omega)) (by first | omega | (rw [← em7]; omega))).mono ?_
      rintro e w8 ⟨k8, rfl, k80, k81, D8, G8⟩
      have k82 : k8 ≤ 26 := by first | omega | (rw [← em7] at k81; omega)
      have H8 : Hid _ := And.intro D8 (And.intro (grown_trans H7.out.2.1 G8) (H7.out.1.row H7.out.2.2 G8))
      clear D8 G8 k81 em7 m70
      go_wp2_with fail
      go_at_call 31
      refine (bytesT g c xs ((((0 + 3 + 3) + 3 + 3) + 1000) + 3 + 3) k8 _ H8.out.1 (by decide) k80 (by omega)).mono ?_
      rintro e w9 ⟨a1, p1, ads, rfl, R1, l1, B1, D9, G9⟩
      obtain ⟨n1, en1⟩ : ∃ n, n = ads.length := ⟨_, rfl⟩
      rw [← en1] at R1 l1 ⊢
      have H9 : Hid _ := And.intro D9 (And.intro (grown_trans H8.out.2.1 G9) (And.intro (H8.out.1.row H8.out.2.2 G9) (And.intro R1 (And.intro B1 (And.intro en1 l1)))))
      clear D9 G9 R1 B1 en1 l1
      go_wp2_with fail
      go_at_call 29
      refine (nextT g c xs ((((0 + 3 + 3) + 3 + 3) + 1000) + 3 + 3 + 1000) 20 _ H9.out.1 (by decide) (by decide) (by decide)).mono ?_
      rintro e w10 ⟨k10, rfl, k100, k101, D10, G10⟩
      have H10 : Hid _ := And.intro D10 (And.intro (grown_trans H9.out.2.1 G10) (And.intro (H9.out.1.row H9.out.2.2.1 G10) (H9.out.1.row H9.out.2.2.2.1 G10)))
      clear D10 G10
      obtain ⟨m10, em10⟩ : ∃ m, m = Int.tdiv k10 19 := ⟨_, rfl⟩
      have m100 : 0 ≤ m10 ∧ m10 ≤ 1 := by rw [em10, Int.tdiv_eq_ediv_of_nonneg k100]; omega
      go_wp2_with fail
      go_at_call 29
      refine (nextT g c xs (((((0 + 3 + 3) + 3 + 3) + 1000) + 3 + 3 + 1000) + 3) _ _ H10.out.1 (by decide) (by first | omega | (rw [← em10]; omega)) (by first | omega | (rw [← em10]; omega))).mono ?_
      rintro e w11 ⟨k11, rfl, k110, k111, D11, G11⟩
      have k112 : k11 ≤ 10 := by first | omega | (rw [← em10] at k111; omega)
      have H11 : Hid _ := And.intro D11 (And.intro (grown_trans H10.out.2.1 G11) (And.intro (H10.out.1.row H10.out.2.2.1 G11) (H10.out.1.row H10.out.2.2.2 G11)))
      clear D11 G11 k111 em10 m100
      go_wp2_with fail
      go_at_call 31
      refine (bytesT g c xs (((((0 + 3 + 3) + 3 + 3) + 1000) + 3 + 3 + 1000) + 3 + 3) k11 _ H11.out.1 (by decide) k110 (by omega)).mono ?_
      rintro e w12 ⟨a3, p3, os, rfl, R3, l3, B3, D12, G12⟩
      obtain ⟨n3, en3⟩ : ∃ n, n = os.length := ⟨_, rfl⟩
      rw [← en3] at R3 l3 ⊢
      have H12 : Hid _ := And.intro (grown_trans H11.out.2.1 G12) (And.intro (H11.out.1.row H11.out.2.2.1 G12) (And.intro (H11.out.1.row H11.out.2.2.2 G12) (And.intro R3 (And.intro B3 (And.intro en3 l3)))))
      clear D12 G12 R3 B3 en3 l3
      go_wp2
      refine bodyPost_ret (v := .tuple #[.slice a0 n0 p0, .slice a1 n1 p1, .int .i64 (t3 * 40), .slice a3 n3 p3]) (by simp [results, Try.results12, go_sem]) rfl ?_
      refine ⟨_, rfl, ⟨a0, a1, a3, p0, p1, p3, ks, ads, os, t3 * 40, ?_, ?_, ?_, ?_, H6.out.2.2.2.1, H9.out.2.2.2.2.1, H12.out.2.2.2.2.1, ?_, ?_, ?_, tt0, tt1⟩, H12.out.1⟩
      · rw [← H6.out.2.2.2.2.1, ← H9.out.2.2.2.2.2.1, ← H12.out.2.2.2.2.2.1]
      · rw [← H6.out.2.2.2.2.1]; exact H12.out.2.1
      · rw [← H9.out.2.2.2.2.2.1]; exact H12.out.2.2.1
      · rw [← H12.out.2.2.2.2.2.1]; exact H12.out.2.2.2.1
      · have := H6.out.2.2.2.2.2; have := H6.out.2.2.2.2.1; omega
      · have := H9.out.2.2.2.2.2.2; have := H9.out.2.2.2.2.2.1; omega
      · have := H12.out.2.2.2.2.2.2; have := H12.out.2.2.2.2.2.1; omega
  | false =>
    have HC : Hid _ := And.intro H1.out.1 H1.out.2
    go_wp2_with fail
    go_at_call 29
    refine (nextT g c xs (0 + 3) 16777216 _ HC.out.1 (by decide) (by decide) (by decide)).mono ?_
    rintro e w3 ⟨t3, rfl, t30, t31, D3, G3⟩
    have H3 : Hid _ := And.intro D3 (grown_trans HC.out.2 G3)
    clear D3 G3
    go_wp2_with fail
    go_at_call 28
    refine (chanceT g c xs ((0 + 3) + 3) 15 _ H3.out.1 (by decide) (by decide) (by decide)).mono ?_
    rintro e w4 ⟨b4, rfl, D4, G4⟩
    have H4 : Hid _ := And.intro D4 (grown_trans H3.out.2 G4)
    clear D4 G4
    cases b4 with
    | true =>
      go_wp2_with fail
      go_at_call 30
      refine (oddT g c xs ((0 + 3) + 3 + 3) _ H4.out.1 (by decide)).mono ?_
      rintro e w5 ⟨tt, rfl, tt0, tt1, D5, G5⟩
      have H5 : Hid _ := And.intro D5 (grown_trans H4.out.2 G5)
      clear D5 G5
      go_wp2_with fail
      go_at_call 31
      refine (bytesT g c xs ((0 + 3) + 3 + 3 + 3) 16 _ H5.out.1 (by decide) (by decide) (by decide)).mono ?_
      rintro e w6 ⟨a0, p0, ks, rfl, R0, l0, B0, D6, G6⟩
      obtain ⟨n0, en0⟩ : ∃ n, n = ks.length := ⟨_, rfl⟩
      rw [← en0] at R0 l0 ⊢
      have H6 : Hid _ := And.intro D6 (And.intro (grown_trans H5.out.2 G6) (And.intro R0 (And.intro B0 (And.intro en0 l0))))
      clear D6 G6 R0 B0 en0 l0
      go_wp2_with fail
      go_at_call 29
      refine (nextT g c xs (((0 + 3) + 3 + 3 + 3) + 1000) 20 _ H6.out.1 (by decide) (by decide) (by decide)).mono ?_
      rintro e w7 ⟨k7, rfl, k70, k71, D7, G7⟩
      have H7 : Hid _ := And.intro D7 (And.intro (grown_trans H6.out.2.1 G7) (H6.out.1.row H6.out.2.2.1 G7))
      clear D7 G7
      obtain ⟨m7, em7⟩ : ∃ m, m = Int.tdiv k7 19 := ⟨_, rfl⟩
      have m70 : 0 ≤ m7 ∧ m7 ≤ 1 := by rw [em7, Int.tdiv_eq_ediv_of_nonneg k70]; omega
      go_wp2_with fail
      go_at_call 29
      refine (nextT g c xs ((((0 + 3) + 3 + 3 + 3) + 1000) + 3) _ _ H7.out.1 (by decide) (by first | omega | (rw [← em7]; omega)) (by first | omega | (rw [← em7]; omega))).mono ?_
      rintro e w8 ⟨k8, rfl, k80, k81, D8, G8⟩
      have k82 : k8 ≤ 26 := by first | omega | (rw [← em7] at k81; omega)
      have H8 : Hid _ := And.intro D8 (And.intro (grown_trans H7.out.2.1 G8) (H7.out.1.row H7.out.2.2 G8))
      clear D8 G8 k81 em7 m70
      go_wp2_with fail
      go_at_call 31
      refine (bytesT g c xs ((((0 + 3) + 3 + 3 + 3) + 1000) + 3 + 3) k8 _ H8.out.1 (by decide) k80 (by omega)).mono ?_
      rintro e w9 ⟨a1, p1, ads, rfl, R1, l1, B1, D9, G9⟩
      obtain ⟨n1, en1⟩ : ∃ n, n = ads.length := ⟨_, rfl⟩
      rw [← en1] at R1 l1 ⊢
      have H9 : Hid _ := And.intro D9 (And.intro (grown_trans H8.out.2.1 G9) (And.intro (H8.out.1.row H8.out.2.2 G9) (And.intro R1 (And.intro B1 (And.intro en1 l1)))))
      clear D9 G9 R1 B1 en1 l1
      go_wp2_with fail
      go_at_call 29
      refine (nextT g c xs ((((0 + 3) + 3 + 3 + 3) + 1000) + 3 + 3 + 1000) 20 _ H9.out.1 (by decide) (by decide) (by decide)).mono ?_
      rintro e w10 ⟨k10, rfl, k100, k101, D10, G10⟩
      have H10 : Hid _ := And.intro D10 (And.intro (grown_trans H9.out.2.1 G10) (And.intro (H9.out.1.row H9.out.2.2.1 G10) (H9.out.1.row H9.out.2.2.2.1 G10)))
      clear D10 G10
      obtain ⟨m10, em10⟩ : ∃ m, m = Int.tdiv k10 19 := ⟨_, rfl⟩
      have m100 : 0 ≤ m10 ∧ m10 ≤ 1 := by rw [em10, Int.tdiv_eq_ediv_of_nonneg k100]; omega
      go_wp2_with fail
      go_at_call 29
      refine (nextT g c xs (((((0 + 3) + 3 + 3 + 3) + 1000) + 3 + 3 + 1000) + 3) _ _ H10.out.1 (by decide) (by first | omega | (rw [← em10]; omega)) (by first | omega | (rw [← em10]; omega))).mono ?_
      rintro e w11 ⟨k11, rfl, k110, k111, D11, G11⟩
      have k112 : k11 ≤ 10 := by first | omega | (rw [← em10] at k111; omega)
      have H11 : Hid _ := And.intro D11 (And.intro (grown_trans H10.out.2.1 G11) (And.intro (H10.out.1.row H10.out.2.2.1 G11) (H10.out.1.row H10.out.2.2.2 G11)))
      clear D11 G11 k111 em10 m100
      go_wp2_with fail
      go_at_call 31
      refine (bytesT g c xs (((((0 + 3) + 3 + 3 + 3) + 1000) + 3 + 3 + 1000) + 3 + 3) k11 _ H11.out.1 (by decide) k110 (by omega)).mono ?_
      rintro e w12 ⟨a3, p3, os, rfl, R3, l3, B3, D12, G12⟩
      obtain ⟨n3, en3⟩ : ∃ n, n = os.length := ⟨_, rfl⟩
      rw [← en3] at R3 l3 ⊢
      have H12 : Hid _ := And.intro (grown_trans H11.out.2.1 G12) (And.intro (H11.out.1.row H11.out.2.2.1 G12) (And.intro (H11.out.1.row H11.out.2.2.2 G12) (And.intro R3 (And.intro B3 (And.intro en3 l3)))))
      clear D12 G12 R3 B3 en3 l3
      go_wp2
      refine bodyPost_ret (v := .tuple #[.slice a0 n0 p0, .slice a1 n1 p1, .int .i64 tt, .slice a3 n3 p3]) (by simp [results, Try.results12, go_sem]) rfl ?_
      refine ⟨_, rfl, ⟨a0, a1, a3, p0, p1, p3, ks, ads, os, tt, ?_, ?_, ?_, ?_, H6.out.2.2.2.1, H9.out.2.2.2.2.1, H12.out.2.2.2.2.1, ?_, ?_, ?_, tt0, tt1⟩, H12.out.1⟩
      · rw [← H6.out.2.2.2.2.1, ← H9.out.2.2.2.2.2.1, ← H12.out.2.2.2.2.2.1]
      · rw [← H6.out.2.2.2.2.1]; exact H12.out.2.1
      · rw [← H9.out.2.2.2.2.2.1]; exact H12.out.2.2.1
      · rw [← H12.out.2.2.2.2.2.1]; exact H12.out.2.2.2.1
      · have := H6.out.2.2.2.2.2; have := H6.out.2.2.2.2.1; omega
      · have := H9.out.2.2.2.2.2.2; have := H9.out.2.2.2.2.2.1; omega
      · have := H12.out.2.2.2.2.2.2; have := H12.out.2.2.2.2.2.1; omega
    | false =>
      have tt0 : -1 ≤ t3 * 40 := by omega
      have tt1 : t3 * 40 ≤ 9223372036854775807 := by omega
      go_wp2_with fail
      go_at_call 31
      refine (bytesT g c xs ((0 + 3) + 3 + 3) 16 _ H4.out.1 (by decide) (by decide) (by decide)).mono ?_
      rintro e w6 ⟨a0, p0, ks, rfl, R0, l0, B0, D6, G6⟩
      obtain ⟨n0, en0⟩ : ∃ n, n = ks.length := ⟨_, rfl⟩
      rw [← en0] at R0 l0 ⊢
      have H6 : Hid _ := And.intro D6 (And.intro (grown_trans H4.out.2 G6) (And.intro R0 (And.intro B0 (And.intro en0 l0))))
      clear D6 G6 R0 B0 en0 l0
      go_wp2_with fail
      go_at_call 29
      refine (nextT g c xs (((0 + 3) + 3 + 3) + 1000) 20 _ H6.out.1 (by decide) (by decide) (by decide)).mono ?_
      rintro e w7 ⟨k7, rfl, k70, k71, D7, G7⟩
      have H7 : Hid _ := And.intro D7 (And.intro (grown_trans H6.out.2.1 G7) (H6.out.1.row H6.out.2.2.1 G7))
      clear D7 G7
      obtain ⟨m7, em7⟩ : ∃ m, m = Int.tdiv k7 19 := ⟨_, rfl⟩
      have m70 : 0 ≤ m7 ∧ m7 ≤ 1 := by rw [em7, Int.tdiv_eq_ediv_of_nonneg k70]; omega
      go_wp2_with fail
      go_at_call 29
      refine (nextT g c xs ((((0 + 3) + 3 + 3) + 1000) + 3) _ _ H7.out.1 (by decide) (by first | omega | (rw [← em7]; omega)) (by first | omega | (rw [← em7]; omega))).mono ?_
      rintro e w8 ⟨k8, rfl, k80, k81, D8, G8⟩
      have k82 : k8 ≤ 26 := by first | omega | (rw [← em7] at k81; omega)
      have H8 : Hid _ := And.intro D8 (And.intro (grown_trans H7.out.2.1 G8) (H7.out.1.row H7.out.2.2 G8))
      clear D8 G8 k81 em7 m70
      go_wp2_with fail
      go_at_call 31
      refine (bytesT g c xs ((((0 + 3) + 3 + 3) + 1000) + 3 + 3) k8 _ H8.out.1 (by decide) k80 (by omega)).mono ?_
      rintro e w9 ⟨a1, p1, ads, rfl, R1, l1, B1, D9, G9⟩
      obtain ⟨n1, en1⟩ : ∃ n, n = ads.length := ⟨_, rfl⟩
      rw [← en1] at R1 l1 ⊢
      have H9 : Hid _ := And.intro D9 (And.intro (grown_trans H8.out.2.1 G9) (And.intro (H8.out.1.row H8.out.2.2 G9) (And.intro R1 (And.intro B1 (And.intro en1 l1)))))
      clear D9 G9 R1 B1 en1 l1
      go_wp2_with fail
      go_at_call 29
      refine (nextT g c xs ((((0 + 3) + 3 + 3) + 1000) + 3 + 3 + 1000) 20 _ H9.out.1 (by decide) (by decide) (by decide)).mono ?_
      rintro e w10 ⟨k10, rfl, k100, k101, D10, G10⟩
      have H10 : Hid _ := And.intro D10 (And.intro (grown_trans H9.out.2.1 G10) (And.intro (H9.out.1.row H9.out.2.2.1 G10) (H9.out.1.row H9.out.2.2.2.1 G10)))
      clear D10 G10
      obtain ⟨m10, em10⟩ : ∃ m, m = Int.tdiv k10 19 := ⟨_, rfl⟩
      have m100 : 0 ≤ m10 ∧ m10 ≤ 1 := by rw [em10, Int.tdiv_eq_ediv_of_nonneg k100]; omega
      go_wp2_with fail
      go_at_call 29
      refine (nextT g c xs (((((0 + 3) + 3 + 3) + 1000) + 3 + 3 + 1000) + 3) _ _ H10.out.1 (by decide) (by first | omega | (rw [← em10]; omega)) (by first | omega | (rw [← em10]; omega))).mono ?_
      rintro e w11 ⟨k11, rfl, k110, k111, D11, G11⟩
      have k112 : k11 ≤ 10 := by first | omega | (rw [← em10] at k111; omega)
      have H11 : Hid _ := And.intro D11 (And.intro (grown_trans H10.out.2.1 G11) (And.intro (H10.out.1.row H10.out.2.2.1 G11) (H10.out.1.row H10.out.2.2.2 G11)))
      clear D11 G11 k111 em10 m100
      go_wp2_with fail
      go_at_call 31
      refine (bytesT g c xs (((((0 + 3) + 3 + 3) + 1000) + 3 + 3 + 1000) + 3 + 3) k11 _ H11.out.1 (by decide) k110 (by omega)).mono ?_
      rintro e w12 ⟨a3, p3, os, rfl, R3, l3, B3, D12, G12⟩
      obtain ⟨n3, en3⟩ : ∃ n, n = os.length := ⟨_, rfl⟩
      rw [← en3] at R3 l3 ⊢
      have H12 : Hid _ := And.intro (grown_trans H11.out.2.1 G12) (And.intro (H11.out.1.row H11.out.2.2.1 G12) (And.intro (H11.out.1.row H11.out.2.2.2 G12) (And.intro R3 (And.intro B3 (And.intro en3 l3)))))
      clear D12 G12 R3 B3 en3 l3
      go_wp2
      refine bodyPost_ret (v := .tuple #[.slice a0 n0 p0, .slice a1 n1 p1, .int .i64 (t3 * 40), .slice a3 n3 p3]) (by simp [results, Try.results12, go_sem]) rfl ?_
      refine ⟨_, rfl, ⟨a0, a1, a3, p0, p1, p3, ks, ads, os, t3 * 40, ?_, ?_, ?_, ?_, H6.out.2.2.2.1, H9.out.2.2.2.2.1, H12.out.2.2.2.2.1, ?_, ?_, ?_, tt0, tt1⟩, H12.out.1⟩
      · rw [← H6.out.2.2.2.2.1, ← H9.out.2.2.2.2.2.1, ← H12.out.2.2.2.2.2.1]
      · rw [← H6.out.2.2.2.2.1]; exact H12.out.2.1
      · rw [← H9.out.2.2.2.2.2.1]; exact H12.out.2.2.1
      · rw [← H12.out.2.2.2.2.2.1]; exact H12.out.2.2.2.1
      · have := H6.out.2.2.2.2.2; have := H6.out.2.2.2.2.1; omega
      · have := H9.out.2.2.2.2.2.2; have := H9.out.2.2.2.2.2.1; omega
      · have := H12.out.2.2.2.2.2.2; have := H12.out.2.2.2.2.2.1; omega
theorem drawTokC (v : Value) (xs : List Int) (w : World) (hrow : Row w .u8 v xs) (hB : Bytes xs) (hl : xs.length ≤ 1048576) :
    Calls Try.prog 4 #[v] w fun e w' => ∃ r, e = .returned r ∧ TkDr w' r ∧ Below w.heap.size w w' := by
  have S0 := sourceC v xs w hrow hB hl
  have D0 := dt_new hrow hB hl
  have H0 : Hid _ := And.intro S0 (And.intro D0 ((Below.refl w.heap.size w).alloc (Nat.le_refl _) (.cells #[v, .int .i64 0, .int .i64 ((xs.length : Int) % 1000)] 50)))
  clear S0 D0 hrow hB hl
  go_enter Try.func4, Try.ntmps4
  go_wp2_with fail
  go_at_call 13
  refine H0.out.1.mono ?_
  rintro e w1 ⟨rfl, hw1⟩
  have H1 : Hid _ := And.intro (show Dt w1 w.heap.size v xs 0 by rw [hw1]; exact H0.out.2.1) (show Below w.heap.size w w1 by rw [hw1]; exact H0.out.2.2)
  clear hw1
  go_wp2_with fail
  go_at_call 12
  refine (drawTokT w.heap.size v xs w1 H1.out.1).mono ?_
  rintro e w2 ⟨r, rfl, T2, G2⟩
  obtain ⟨a0, a1, a3, p0, p1, p3, ks, ads, os, t, er, R⟩ := T2
  subst er
  have H2 : Hid _ := And.intro R (H1.out.2.grown G2 H1.out.2.size (fun q hq => by have := Option.some.inj hq; omega))
  clear R G2
  go_wp2
  refine bodyPost_ret (v := .tuple #[.slice a0 ks.length p0, .slice a1 ads.length p1, .int .i64 t, .slice a3 os.length p3]) (by simp [results, Try.results4, go_sem]) rfl ?_
  exact ⟨_, rfl, ⟨a0, a1, a3, p0, p1, p3, ks, ads, os, t, rfl, H2.out.1⟩, H2.out.2⟩
end Go.Proofs.Ytkpmdcmgcdnpfaa

namespace Go.Proofs.Ytkpmdcmgcdnpfaa
open Go.RowKit
set_option linter.unusedVariables false

/-- What the laws draw of their second argument at the place i, from 0 to n - 1. -/
def atV (ys : List Int) (i : Nat) (n : Int) : Int :=
  if ys.length = 0 then (i : Int) * 7 % n else (ys.getD (i % ys.length) 0 * 31 + ys.getD ((i + 1) % ys.length) 0 + ((i / ys.length : Nat) : Int)) % n
theorem atV_bd (ys : List Int) (i : Nat) (n : Int) (hn : 2 ≤ n) : 0 ≤ atV ys i n ∧ atV ys i n < n := by
  unfold atV
  split
  · exact ⟨Int.emod_nonneg _ (by omega), Int.emod_lt_of_pos _ (by omega)⟩
  · exact ⟨Int.emod_nonneg _ (by omega), Int.emod_lt_of_pos _ (by omega)⟩

theorem at_none (ao : Option Addr) (cap i : Nat) (n : Int) (w : World) (hi : i ≤ 2147483648) (hn : 2 ≤ n) (hn1 : n ≤ 2147483648) :
    Calls Try.prog 7 #[.slice ao 0 cap, .int .i64 (i : Int), .int .i64 n] w fun e w' => e = .returned (.int .i64 ((i : Int) * 7 % n)) ∧ w' = w := by
  go_enter Try.func7, Try.ntmps7
  go_wp2
  go_ret
  exact ⟨rfl, rfl⟩

set_option maxHeartbeats 1000000 in
theorem at_some (b off L cap i p q d : Nat) (n x y : Int) (w : World) (hL : 0 < L) (hL1 : L ≤ 9223372036854775807) (hi : i ≤ 2147483648) (hn : 2 ≤ n) (hn1 : n ≤ 2147483648)
    (hp : p < L) (hq : q < L) (hd : d ≤ 2147483648) (ep : (i : Int) % (L : Int) = (p : Int)) (eq : ((i : Int) + 1) % (L : Int) = (q : Int)) (ed : (i : Int) / (L : Int) = (d : Int))
    (x0 : 0 ≤ x) (x1 : x < 256) (y0 : 0 ≤ y) (y1 : y < 256) (cx : w.cell? ⟨b, off + p, none⟩ = some (.int .u8 x)) (cy : w.cell? ⟨b, off + q, none⟩ = some (.int .u8 y)) :
    Calls Try.prog 7 #[.slice (some ⟨b, off, none⟩) L cap, .int .i64 (i : Int), .int .i64 n] w fun e w' => e = .returned (.int .i64 ((x * 31 + y + (d : Int)) % n)) ∧ ∃ m, w' = w.drewN m := by
  have hne : ((L : Int) == 0) = false := by rw [beq_eq_false_iff_ne]; omega
  go_enter Try.func7, Try.ntmps7
  go_wp2
  go_quiet (fail)
  go_wp2
  go_ret
  exact ⟨rfl, _, rfl⟩

theorem atC (v : Value) (ys : List Int) (i : Nat) (n : Int) (w : World) (hrow : Row w .u8 v ys) (hB : Bytes ys) (hl : ys.length ≤ 9223372036854775807) (hi : i ≤ 2147483648) (hn : 2 ≤ n) (hn1 : n ≤ 2147483648) :
    Calls Try.prog 7 #[v, .int .i64 (i : Int), .int .i64 n] w fun e w' => e = .returned (.int .i64 (atV ys i n)) ∧ ∃ m, w' = w.drewN m := by
  by_cases h0 : ys.length = 0
  · obtain ⟨ao, cap, rfl⟩ := hrow.form
    rw [h0]
    rw [show atV ys i n = (i : Int) * 7 % n by unfold atV; rw [if_pos h0]]
    refine (at_none ao cap i n w hi hn hn1).mono ?_
    rintro e w' ⟨rfl, rfl⟩
    exact ⟨rfl, 0, rfl⟩
  · obtain ⟨b, off, cap, rfl, hb, hc⟩ := hrow.at (by omega)
    rw [show atV ys i n = (ys.getD (i % ys.length) 0 * 31 + ys.getD ((i + 1) % ys.length) 0 + ((i / ys.length : Nat) : Int)) % n by unfold atV; rw [if_neg h0]]
    have hp := Nat.mod_lt i (Nat.pos_of_ne_zero h0)
    have hq := Nat.mod_lt (i + 1) (Nat.pos_of_ne_zero h0)
    have hd := Nat.div_le_self i ys.length
    have bx := hB.at (i % ys.length)
    have by' := hB.at ((i + 1) % ys.length)
    exact at_some b off ys.length cap i (i % ys.length) ((i + 1) % ys.length) (i / ys.length) n _ _ w (by omega) hl hi hn hn1 hp hq (by omega) (Int.natCast_emod i ys.length).symm (Int.natCast_emod (i + 1) ys.length).symm (Int.natCast_ediv i ys.length).symm bx.1 bx.2 by'.1 by'.2 (hc _ hp) (hc _ hq)
end Go.Proofs.Ytkpmdcmgcdnpfaa

namespace Go.Proofs.Ytkpmdcmgcdnpfaa
open Go.RowKit
set_option linter.unusedVariables false

theorem conv_anyT {P : Program} {w : World} {e ts tstr : Nat} {v : Value} {xs : List Int} (hs : P.underlying ts = some (.slice e)) (he : P.underlying e = some (.int .u8)) (hd : P.underlying tstr = some .string)
    (h : Row w .u8 v xs) : (convert ts tstr v).run P w = .ok (.string (strOfNums xs)) w := by
  by_cases h0 : 0 < xs.length
  · obtain ⟨b, off, cap, rfl, hb, hc⟩ := h.at h0
    exact run_convert_bytes_arg w ts e hs he b off xs.length cap xs rfl hc tstr hd
  · obtain rfl : xs = [] := List.eq_nil_of_length_eq_zero (by omega)
    obtain ⟨ao, cap, rfl⟩ := h.form
    cases ao with
    | none => exact run_convert_bytes_nil w ts e hs he 0 cap tstr hd
    | some p => simp [convert, run_underlying hs, run_underlying he, run_underlying hd, Conv.bytesToString, loadCells, loadCellsFrom, strOfNums]; rfl
theorem sameT (va vb : Value) (xs : List Int) (w : World) (ha : Row w .u8 va xs) (hb : Row w .u8 vb xs) :
    Calls Try.prog 10 #[va, vb] w fun e w' => e = .returned (.bool true) ∧ w' = w := by
  have c1 := conv_anyT (P := Try.prog) Try.underlying22 Try.underlying5 Try.underlying9 ha
  have c2 := conv_anyT (P := Try.prog) Try.underlying22 Try.underlying5 Try.underlying9 hb
  clear ha hb
  generalize strOfNums xs = s at c1 c2
  have ht : (s.toList == s.toList) = true := by simp
  go_enter Try.func10, Try.ntmps10
  go_wp2
  go_ret
  exact ⟨rfl, rfl⟩
set_option maxHeartbeats 400000 in
theorem copiedT (v : Value) (xs : List Int) (w : World) (hr : Row w .u8 v xs) (hl : xs.length ≤ 1048576) :
    Calls Try.prog 9 #[v] w fun e w' => ∃ r, e = .returned r ∧ w'.ownsRow w.heap.size 5 1 r xs.length (xs.map (Value.int .u8)) ∧ Below w.heap.size w w' := by
  have ba : Below w.heap.size w (w.alloc (.cells #[] 5)) := (Below.refl _ _).alloc (Nat.le_refl _) _
  have HN : Hid _ := And.intro (hr.below ba) (And.intro ba hl)
  clear hr ba hl
  go_enter Try.func9, Try.ntmps9
  go_wp2_with (at_builtin; refine wpList_append_row rfl _ _ rfl w.heap.size (.slice (some ⟨w.heap.size, 0, none⟩) 0 0) 0 [] rfl (World.ownsRow_lit w #[] 0 (Nat.le_refl _) (by decide) rfl) v xs rfl HN.out.1 (by have := HN.out.2.2; omega) (by simp) ?_; intro v' w2 hown2 hgrow)
  have R : w2.ownsRow w.heap.size 5 1 v' xs.length (xs.map (Value.int .u8)) := by simpa using hown2
  have B : Below w.heap.size w w2 := HN.out.2.1.grown hgrow (by simp) (by intro k hk; simp [Value.ownBlock] at hk; omega)
  have HR : Hid _ := And.intro R B
  clear R B hown2 hgrow
  go_wp2
  go_ret
  exact ⟨_, rfl, HR.out.1, HR.out.2⟩
theorem bytes7 : Bytes [7] := by
  intro x hx
  have : x = 7 := by simpa using hx
  omega
theorem rowLit7 (w : World) : Row (w.alloc (.cells #[.int .u8 7] 5)) .u8 (.slice (some ⟨w.heap.size, 0, none⟩) 1 1) [7] := by
  refine Or.inr ⟨w.heap.size, 0, 1, rfl, by simp, ⟨Nat.le_refl _, by decide⟩, fun j hj => ?_⟩
  have : j = 0 := by simp at hj; omega
  subst this
  rw [blkS_cell (MapKept.heap_alloc w _).1]
  rfl
theorem rowCapT {w : World} {a : Option Addr} {n p : Nat} {xs : List Int} (h : Row w .u8 (.slice a n p) xs) (hl : xs.length = n) : n ≤ p := by
  rcases h with ⟨rfl, _⟩ | ⟨b', off', cap', e, hb, hcap, hc⟩
  · simp at hl; omega
  · cases e; omega
theorem rowTakeT {w : World} {a : Option Addr} {n p m : Nat} {xs : List Int} (h : Row w .u8 (.slice a n p) xs) (hl : xs.length = n) (hm : m ≤ n) : Row w .u8 (.slice a m p) (xs.take m) := by
  rcases h with ⟨rfl, _⟩ | ⟨b', off', cap', e, hb, hcap, hc⟩
  · obtain rfl : m = 0 := by simp at hl; omega
    exact Or.inl ⟨rfl, _, _, rfl⟩
  · cases e
    have := row_cut (w := w) (k := .u8) (xs := xs) (b := b') (off := off') (cap := 0) (at' := 0) (n := m) (cap' := p) hb hc (by omega) ⟨by omega, by omega⟩
    rw [Nat.add_zero, List.drop_zero] at this
    exact this
set_option maxRecDepth 20000 in
set_option maxHeartbeats 8000000 in
theorem tokens_go (ao ap : Option Addr) (n m c1 c2 : Nat) (x0 x1 : List Int) (w : World) (row0 : Row w .u8 (.slice ao n c1) x0) (row1 : Row w .u8 (.slice ap m c2) x1) (ln : n ≤ 1048576) (lm : m ≤ 1048576) (e0 : x0.length = n) (e1 : x1.length = m) (b0 : Bytes x0) (b1 : Bytes x1) :
    Calls Try.prog 3 #[.slice ao n c1, .slice ap m c2] w fun e w' => e = .returned (.bool true) ∧ Below w.heap.size w w' := by
  have HD : Hid _ := And.intro (drawTokC (.slice ao n c1) x0 w row0 b0 (by omega)) True.intro
  have HM : Hid _ := And.intro row1 (And.intro b1 e1)
  clear row0 row1 e0 e1 b0 b1
  go_enter Try.func3, Try.ntmps3
  go_wp2_with fail
  go_at_call 4
  refine HD.out.1.mono ?_
  rintro e w1 ⟨r, rfl, T, bd⟩
  obtain ⟨a0, a1, a3, p0, p1, p3, ks, ads, os, t, er, R0, R1, R3, B0, B1, B3, k20, a26, o10, t0, t1⟩ := T
  subst er
  obtain ⟨nk, ek⟩ : ∃ n, ks.length = n := ⟨_, rfl⟩
  obtain ⟨na, ea⟩ : ∃ n, ads.length = n := ⟨_, rfl⟩
  obtain ⟨no, eo⟩ : ∃ n, os.length = n := ⟨_, rfl⟩
  rw [ek] at R0 k20 ⊢
  rw [ea] at R1 a26 ⊢
  rw [eo] at R3 o10 ⊢
  by_cases ok : tArg nk na t ∧ no ≤ 8
  · obtain ⟨⟨k16, a24, th⟩, o8⟩ := ok
    subst k16
    have H1 : Hid _ := And.intro R0 (And.intro R1 (And.intro R3 bd))
    have HB : Hid _ := And.intro B0 (And.intro B1 B3)
    have HL : Hid _ := And.intro ek (And.intro ea eo)
    have TL : Hid _ := And.intro (tokM_length ks ads t os) (And.intro (sealV_bytesT (keysV ks) 0 ads (tokB t os)) True.intro)
    have HTC : Hid _ := And.intro (fun (w : World) (u0 u1 u3 : Value) (t2 : Int) (h1 : t ≤ t2) (h2 : t2 ≤ t + 60000000) (h3 : t2 ≤ 1000000000000) (r0 : Row w .u8 u0 ks) (r1 : Row w .u8 u1 ads) (r3 : Row w .u8 u3 (tokM ks ads t os)) => by
      have X := tcI_all ks ads (tokM ks ads t os) t2 w u0 u1 u3 ek (by omega) ⟨by omega, h3⟩ (by rw [tokM_length]; omega) B0 B1 (sealV_bytesT (keysV ks) 0 ads (tokB t os)) r0 r1 r3
      rw [tcR_tok ks ads t t2 os (by omega) (by omega) B3 th.1 th.2 h1 h2] at X
      exact X) True.intro
    have z1 : w.heap.size ≤ w1.heap.size := bd.size
    clear R0 R1 R3 bd B0 B1 B3 ek ea eo k20 a26 o10 t0 t1
    go_wp2_with fail
    go_at_call 5
    refine (tmkI_ok a0 a1 a3 na no p0 p1 p3 t ks ads os w1 a24 th o8 H1.out.1 H1.out.2.1 H1.out.2.2.1 HL.out.1 HL.out.2.1 HL.out.2.2 HB.out.1 HB.out.2.1 HB.out.2.2).mono ?_
    rintro e w2 ⟨v2, rfl, o2, b2⟩
    obtain ⟨a2, c3, f2⟩ := own_formT o2
    subst f2
    obtain ⟨nt, ent⟩ : ∃ n, (tokM ks ads t os).length = n := ⟨_, rfl⟩
    rw [ent] at o2 ⊢
    have H2 : Hid _ := And.intro (row_of_owns o2) (And.intro (H1.out.1.below b2) (And.intro (H1.out.2.1.below b2) (And.intro (H1.out.2.2.1.below b2) (And.intro (H1.out.2.2.2.trans (b2.mono H1.out.2.2.2.size)) ent))))
    have z2 : w.heap.size ≤ w2.heap.size := H2.out.2.2.2.2.1.size
    clear o2 b2 ent
    go_wp2_with fail
    go_at_call 6
    refine (tmkS_ok a0 a1 a3 na no p0 p1 p3 t ks ads os w2 a24 th o8 H2.out.2.1 H2.out.2.2.1 H2.out.2.2.2.1 HL.out.1 HL.out.2.1 HL.out.2.2 HB.out.1 HB.out.2.1 HB.out.2.2).mono ?_
    rintro e w3 ⟨v3, rfl, o3, b3⟩
    obtain ⟨a4, c4, f4⟩ := own_formT o3
    subst f4
    have H3 : Hid _ := And.intro (H2.out.1.below b3) (And.intro (H2.out.2.1.below b3) (And.intro (H2.out.2.2.1.below b3) (And.intro (H2.out.2.2.2.1.below b3) (H2.out.2.2.2.2.1.trans (b3.mono H2.out.2.2.2.2.1.size)))))
    have z3 : w.heap.size ≤ w3.heap.size := H3.out.2.2.2.2.size
    clear o3 b3
    generalize (tokM ks ads t os).length = nt2
    go_wp2
    go_loopw [13] (fun i wr => ∃ k : Nat, k ≤ 4 ∧ i = .int .i64 k ∧ Below w3.heap.size w3 wr) (fun i _ => 4 - (intOf i).toNat)
    case atStart => exact ⟨0, Nat.zero_le _, rfl, Below.refl _ _⟩
    case round =>
      obtain ⟨k, hk, rfl, hb⟩ := hrel
      have HR : Hid _ := And.intro hb (And.intro (H3.out.1.below hb) (And.intro (H3.out.2.1.below hb) (And.intro (H3.out.2.2.1.below hb) (And.intro (H3.out.2.2.2.1.below hb) (H3.out.2.2.2.2.trans (hb.mono H3.out.2.2.2.2.size))))))
      have zr : w.heap.size ≤ wr.heap.size := HR.out.2.2.2.2.2.size
      clear hb
      by_cases hlt : k < 4
      · go_wp2_with fail
        go_at_call 7
        refine (atC _ x1 k 60000000 wr (HM.out.1.below HR.out.2.2.2.2.2) HM.out.2.1 (by rw [HM.out.2.2]; omega) (by omega) (by decide) (by decide)).mono ?_
        have bd := atV_bd x1 k 60000000 (by decide)
        obtain ⟨dd, ed⟩ : ∃ dd, dd = atV x1 k 60000000 := ⟨_, rfl⟩
        rw [← ed] at bd ⊢
        clear ed
        rintro e wa ⟨rfl, mm, hwa⟩
        have da : Below wr.heap.size wr wa := by rw [hwa]; exact below_drewN (Below.refl _ _) mm
        have HA : Hid _ := And.intro (HR.out.1.trans (da.mono HR.out.1.size)) (And.intro (HR.out.2.1.below da) (And.intro (HR.out.2.2.1.below da) (And.intro (HR.out.2.2.2.1.below da) (And.intro (HR.out.2.2.2.2.1.below da) (HR.out.2.2.2.2.2.trans (da.mono HR.out.2.2.2.2.2.size))))))
        have za : w3.heap.size ≤ wa.heap.size := HA.out.1.size
        have bT : Below wa.heap.size wa (wa.alloc (.cells #[.int .i64 0, .int .i64 60000000, .int .i64 dd, .int .i64 1] 3)) := (Below.refl _ _).alloc (Nat.le_refl _) _
        have HT : Hid _ := And.intro (HA.out.1.trans (bT.mono HA.out.1.size)) (And.intro (HA.out.2.1.below bT) (And.intro (HA.out.2.2.1.below bT) (And.intro (HA.out.2.2.2.1.below bT) (HA.out.2.2.2.2.1.below bT))))
        clear hwa da bT
        obtain rfl | rfl | rfl | rfl : k = 0 ∨ k = 1 ∨ k = 2 ∨ k = 3 := by omega
        all_goals (
          go_wp2_with fail
          go_at_call 9
          refine (copiedT _ (tokM ks ads t os) _ HT.out.2.1 (by rw [H2.out.2.2.2.2.2]; have := TL.out.1; have := H2.out.2.2.2.2.2; have := HL.out.2.2; omega)).mono ?_
          rintro e wb ⟨vc, rfl, oc, bc⟩
          obtain ⟨ac, cc, fc⟩ := own_formT oc
          subst fc
          have HB2 : Hid _ := And.intro (row_of_owns oc) (And.intro (HT.out.2.2.1.below bc) (And.intro (HT.out.2.2.2.1.below bc) (And.intro (HT.out.2.2.2.2.below bc) (HT.out.1.trans (bc.mono HT.out.1.size)))))
          clear oc bc
          go_wp2_with fail
          go_at_call 8
          refine (HTC.out.1 _ _ _ _ _ (by omega) (by omega) (by omega) HB2.out.2.1 HB2.out.2.2.1 HB2.out.1).mono ?_
          rintro e wc ⟨rc, rfl, oc, bc⟩
          have rr := oc.row
          obtain ⟨ae, ce, fe⟩ := rr.form
          subst fe
          have HC : Hid _ := And.intro rr (And.intro (HB2.out.2.2.2.1.below bc) (HB2.out.2.2.2.2.trans (bc.mono HB2.out.2.2.2.2.size)))
          clear oc bc rr
          go_wp2_with fail
          go_at_call 10
          refine (sameT _ _ os _ HC.out.1 HC.out.2.1).mono ?_
          rintro e wd ⟨rfl, hwd⟩
          subst wd
          go_wp2
          go_roundw
          case rel => first | exact ⟨1, by decide, by go_num, HC.out.2.2⟩ | exact ⟨2, by decide, by go_num, HC.out.2.2⟩ | exact ⟨3, by decide, by go_num, HC.out.2.2⟩ | exact ⟨4, by decide, by go_num, HC.out.2.2⟩
          case measure => simp [intOf] <;> omega)
      · obtain rfl : k = 4 := by omega
        clear hlt hk
        have hcap := rowCapT HR.out.2.2.2.1 HL.out.2.1
        obtain ⟨ma, ema⟩ : ∃ ma, ma = min na 20 := ⟨_, rfl⟩
        have hma : ma ≤ na := by omega
        have hm20 : ma ≤ 20 := by omega
        have hmi : (min (na : Int) 20).toNat = ma := by omega
        have MA : Hid _ := And.intro (show (ads.take ma).length = ma by rw [List.length_take, HL.out.2.1]; omega) (show Bytes (ads.take ma ++ [7]) from bytes_append (HB.out.2.1.take ma) bytes7)
        obtain ⟨ca, eca⟩ : ∃ ca, ca = (tcR ks (ads.take ma ++ [7]) t (tokM ks ads t os)).2 := ⟨_, rfl⟩
        have CA : Hid _ := And.intro eca True.intro
        obtain ⟨cb, ecb⟩ : ∃ cb, cb = (tcR ks ads (min 1000000000000 (t + 60000000 + 1)) (tokM ks ads t os)).2 := ⟨_, rfl⟩
        have CB : Hid _ := And.intro ecb True.intro
        have HMI : Hid _ := And.intro ema hmi
        clear ema eca ecb hmi
        have wr0 : Hid _ := And.intro HR.out.1 (And.intro HR.out.2.1 (And.intro HR.out.2.2.1 (And.intro HR.out.2.2.2.1 HR.out.2.2.2.2.2)))
        go_wp2_with fail
        go_at_call 9
        rw [HMI.out.2]
        refine (copiedT _ (ads.take ma) _ (rowTakeT wr0.out.2.2.2.1 HL.out.2.1 hma) (by rw [List.length_take]; omega)).mono ?_
        rw [MA.out.1]
        rintro e wra ⟨vc, rfl, oc, bc⟩
        obtain ⟨ac, cc, fc⟩ := own_formT oc
        subst fc
        have wr1 : Hid _ := And.intro oc (And.intro bc (And.intro (wr0.out.1.trans (bc.mono wr0.out.1.size)) True.intro))
        have zzwr : w3.heap.size ≤ wra.heap.size := wr1.out.2.2.1.size
        have zywr : wr.heap.size ≤ wra.heap.size := bc.size
        have bl : Below wra.heap.size wra (wra.alloc (.cells #[.int .u8 7] 5)) := (Below.refl _ _).alloc (Nat.le_refl _) _
        have rl := rowLit7 wra
        have wr2 : Hid _ := And.intro (owns_below oc bl) (And.intro rl (bc.trans (bl.mono bc.size)))
        clear oc bc bl rl
        go_wp2_with (first
          | (at_builtin; refine wpList_append_row rfl (.tmp 99) (.tmp 100) rfl wr.heap.size _ ma (ads.take ma) rfl wr2.out.1 (.slice (some ⟨wra.heap.size, 0, none⟩) 1 1) [7] rfl wr2.out.2.1 (by simp; omega) (by simp; omega) ?_; intro vq wrq oq gq; have wr3 : Hid _ := And.intro oq (wr2.out.2.2.grown gq wr2.out.2.2.size (fun j hj => (wr2.out.1.lt j hj).1)); obtain ⟨aq, cq, fq⟩ := own_formT oq; subst fq; clear oq gq))
        go_at_call 8
        refine (tcI_all ks (ads.take ma ++ [7]) (tokM ks ads t os) t wrq _ _ _ HL.out.1 (by rw [List.length_append, MA.out.1]; simp; omega) th (by rw [TL.out.1, HL.out.2.2]; omega) HB.out.1 MA.out.2 TL.out.2.1 (wr0.out.2.2.1.below wr3.out.2) (row_of_owns wr3.out.1) (wr0.out.2.1.below wr3.out.2)).mono ?_
        rw [← CA.out.1]
        rintro e wrz ⟨rz, rfl, oz, bz⟩
        have rr := oz.row
        obtain ⟨ae, ce, fe⟩ := rr.form
        subst fe
        have BZ := wr3.out.2.trans (bz.mono wr3.out.2.size)
        have wy0 : Hid _ := And.intro (wr0.out.1.trans (BZ.mono wr0.out.1.size)) (And.intro (wr0.out.2.1.below BZ) (And.intro (wr0.out.2.2.1.below BZ) (And.intro (wr0.out.2.2.2.1.below BZ) (wr0.out.2.2.2.2.trans (BZ.mono wr0.out.2.2.2.2.size)))))
        clear oz bz rr BZ
        rename World => wy
        generalize List.length (tcR ks (ads.take ma ++ [7]) t (tokM ks ads t os)).1 = n9
        go_wp2_with fail
        go_at_call 9
        rw [HMI.out.2]
        refine (copiedT _ (ads.take ma) _ (rowTakeT wy0.out.2.2.2.1 HL.out.2.1 hma) (by rw [List.length_take]; omega)).mono ?_
        rw [MA.out.1]
        rintro e wya ⟨vc, rfl, oc, bc⟩
        obtain ⟨ac, cc, fc⟩ := own_formT oc
        subst fc
        have wy1 : Hid _ := And.intro oc (And.intro bc (And.intro (wy0.out.1.trans (bc.mono wy0.out.1.size)) True.intro))
        have zzwy : w3.heap.size ≤ wya.heap.size := wy1.out.2.2.1.size
        have zywy : wy.heap.size ≤ wya.heap.size := bc.size
        have bl : Below wya.heap.size wya (wya.alloc (.cells #[.int .u8 7] 5)) := (Below.refl _ _).alloc (Nat.le_refl _) _
        have rl := rowLit7 wya
        have wy2 : Hid _ := And.intro (owns_below oc bl) (And.intro rl (bc.trans (bl.mono bc.size)))
        clear oc bc bl rl
        go_wp2_with (first
          | (at_builtin; refine wpList_append_row rfl (.tmp 114) (.tmp 115) rfl wy.heap.size _ ma (ads.take ma) rfl wy2.out.1 (.slice (some ⟨wya.heap.size, 0, none⟩) 1 1) [7] rfl wy2.out.2.1 (by simp; omega) (by simp; omega) ?_; intro vq wyq oq gq; have wy3 : Hid _ := And.intro oq (wy2.out.2.2.grown gq wy2.out.2.2.size (fun j hj => (wy2.out.1.lt j hj).1)); obtain ⟨aq, cq, fq⟩ := own_formT oq; subst fq; clear oq gq))
        go_at_call 11
        refine (tcS_all ks (ads.take ma ++ [7]) (tokM ks ads t os) t wyq _ _ _ HL.out.1 (by rw [List.length_append, MA.out.1]; simp; omega) th (by rw [TL.out.1, HL.out.2.2]; omega) HB.out.1 MA.out.2 TL.out.2.1 (wy0.out.2.2.1.below wy3.out.2) (row_of_owns wy3.out.1) (wy0.out.2.1.below wy3.out.2)).mono ?_
        rw [← CA.out.1]
        rintro e wyz ⟨rz, rfl, oz, bz⟩
        have rr := row_of_owns oz
        obtain ⟨ae, ce, fe⟩ := rr.form
        subst fe
        have BZ := wy3.out.2.trans (bz.mono wy3.out.2.size)
        have wx0 : Hid _ := And.intro (wy0.out.1.trans (BZ.mono wy0.out.1.size)) (And.intro (wy0.out.2.1.below BZ) (And.intro (wy0.out.2.2.1.below BZ) (And.intro (wy0.out.2.2.2.1.below BZ) (wy0.out.2.2.2.2.trans (BZ.mono wy0.out.2.2.2.2.size)))))
        clear oz bz rr BZ
        rename World => wx
        generalize List.length (tcR ks (ads.take ma ++ [7]) t (tokM ks ads t os)).1 = n10
        have wt1 : IntKind.i64.wrap (t + 60000000) = t + 60000000 := by rw [IntKind.wrap_i64]; omega
        go_wp2_with fail
        go_at_call 8
        refine (tcI_all ks ads (tokM ks ads t os) (min 1000000000000 (t + 60000000 + 1)) wx _ _ _ HL.out.1 (by rw [HL.out.2.1]; exact a24) ⟨by omega, by omega⟩ (by rw [TL.out.1, HL.out.2.2]; omega) HB.out.1 HB.out.2.1 TL.out.2.1 wx0.out.2.2.1 wx0.out.2.2.2.1 wx0.out.2.1).mono ?_
        rw [← CB.out.1]
        rintro e wv ⟨rz, rfl, oz, bz⟩
        have rr := oz.row
        obtain ⟨a11, c11, fe⟩ := rr.form
        subst fe
        have wv0 : Hid _ := And.intro (wx0.out.1.trans (bz.mono wx0.out.1.size)) (And.intro (wx0.out.2.1.below bz) (And.intro (wx0.out.2.2.1.below bz) (And.intro (wx0.out.2.2.2.1.below bz) (wx0.out.2.2.2.2.trans (bz.mono wx0.out.2.2.2.2.size)))))
        clear oz bz rr
        generalize List.length (tcR ks ads (min 1000000000000 (t + 60000000 + 1)) (tokM ks ads t os)).1 = n11
        go_wp2_with fail
        go_at_call 11
        refine (tcS_all ks ads (tokM ks ads t os) (min 1000000000000 (t + 60000000 + 1)) wv _ _ _ HL.out.1 (by rw [HL.out.2.1]; exact a24) ⟨by omega, by omega⟩ (by rw [TL.out.1, HL.out.2.2]; omega) HB.out.1 HB.out.2.1 TL.out.2.1 wv0.out.2.2.1 wv0.out.2.2.2.1 wv0.out.2.1).mono ?_
        rw [← CB.out.1]
        rintro e wu ⟨rz, rfl, oz, bz⟩
        have rr := row_of_owns oz
        obtain ⟨a12, c12, fe⟩ := rr.form
        subst fe
        have wu0 : Hid _ := And.intro (wv0.out.1.trans (bz.mono wv0.out.1.size)) (And.intro (wv0.out.2.1.below bz) (And.intro (wv0.out.2.2.1.below bz) (And.intro (wv0.out.2.2.2.1.below bz) (wv0.out.2.2.2.2.trans (bz.mono wv0.out.2.2.2.2.size)))))
        clear oz bz rr
        generalize List.length (tcR ks ads (min 1000000000000 (t + 60000000 + 1)) (tokM ks ads t os)).1 = n12
        have ea : (ca == ca) = true := by simp
        have eb : (cb == cb) = true := by simp
        have en : ((nt : Int) == 8 + (no : Int) + 8) = true := by
          have h1 := TL.out.1
          rw [H2.out.2.2.2.2.2, HL.out.2.2] at h1
          simp
          omega
        go_wp2
        go_ret
        exact ⟨rfl, wu0.out.2.2.2.2⟩
  · have H1 : Hid _ := And.intro R0 (And.intro R1 (And.intro R3 bd))
    have HL : Hid _ := And.intro ek (And.intro ea eo)
    have HN : Hid _ := And.intro ok True.intro
    have z1 : w.heap.size ≤ w1.heap.size := bd.size
    clear R0 R1 R3 bd B0 B1 B3 ek ea eo ok
    go_wp2_with fail
    go_at_call 5
    refine (tmkI_bad a0 a1 a3 nk na no p0 p1 p3 t os w1 (by omega) (by omega) (by omega) HN.out.1 H1.out.2.2.1 HL.out.2.2).mono ?_
    rintro e w2 ⟨v2, rfl, o2, b2⟩
    obtain ⟨a2, c3, f2⟩ := own_formT o2
    subst f2
    have H2 : Hid _ := And.intro (H1.out.2.2.2.trans (b2.mono H1.out.2.2.2.size)) True.intro
    have z2 : w.heap.size ≤ w2.heap.size := H2.out.1.size
    clear o2 b2
    go_wp2_with fail
    go_at_call 6
    refine (tmkS_bad a0 a1 a3 nk na no p0 p1 p3 t w2 (by omega) (by omega) (by omega) HN.out.1).mono ?_
    rintro e w3 ⟨v3, rfl, o3, b3⟩
    obtain ⟨a4, c4, f4⟩ := own_formT o3
    subst f4
    have H3 : Hid _ := And.intro (H2.out.1.trans (b3.mono H2.out.1.size)) True.intro
    clear o3 b3
    go_wp2
    go_ret
    exact ⟨rfl, H3.out.1⟩
set_option maxRecDepth 20000 in
theorem tokens_huge0 (ao ap : Option Addr) (n m c1 c2 : Nat) (w : World) (h : 1048576 < n) (hm : n ≤ 9223372036854775807) :
    Calls Try.prog 3 #[.slice ao n c1, .slice ap m c2] w fun e w' => e = .returned (.bool true) ∧ Below w.heap.size w w' := by
  go_enter Try.func3, Try.ntmps3
  go_wp2
  go_ret
  exact ⟨rfl, Below.refl _ _⟩
set_option maxRecDepth 20000 in
theorem tokens_huge1 (ao ap : Option Addr) (n m c1 c2 : Nat) (w : World) (h0 : n ≤ 1048576) (h : 1048576 < m) (hm : m ≤ 9223372036854775807) :
    Calls Try.prog 3 #[.slice ao n c1, .slice ap m c2] w fun e w' => e = .returned (.bool true) ∧ Below w.heap.size w w' := by
  go_enter Try.func3, Try.ntmps3
  go_wp2
  go_ret
  exact ⟨rfl, Below.refl _ _⟩
theorem fnTokens_walk (v0 : Value) (x0 : List Int) (v1 : Value) (x1 : List Int) (l0 : x0.length ≤ maxLen) (wf0 : ∀ x ∈ x0, (Lit.int .u8 x).wf = true) (l1 : x1.length ≤ maxLen) (wf1 : ∀ x ∈ x1, (Lit.int .u8 x).wf = true)
    (w : World) (row0 : Row w .u8 v0 x0) (row1 : Row w .u8 v1 x1) :
    Calls Try.prog 3 #[v0, v1] w fun e w' => e = .returned (.bool true) ∧ Below w.heap.size w w' := by
  have m0 : x0.length ≤ 9223372036854775807 := by have h := l0; unfold maxLen at h; omega
  have m1 : x1.length ≤ 9223372036854775807 := by have h := l1; unfold maxLen at h; omega
  obtain ⟨ao, c1, rfl⟩ := row0.form
  obtain ⟨ap, c2, rfl⟩ := row1.form
  by_cases g0 : 1048576 < x0.length
  · exact tokens_huge0 ao ap _ _ c1 c2 w g0 m0
  · by_cases g1 : 1048576 < x1.length
    · exact tokens_huge1 ao ap _ _ c1 c2 w (by omega) g1 m1
    · exact tokens_go ao ap _ _ c1 c2 x0 x1 w row0 row1 (by omega) (by omega) rfl rfl (bytes_of_wf wf0) (bytes_of_wf wf1)
end Go.Proofs.Ytkpmdcmgcdnpfaa

namespace Go.Proofs.Ytkpmdcmgcdnpfaa.fnTokens
open Go.ChangeShapes Go.WideShapes Go.ChangeAt Go.RowKit
set_option linter.unusedVariables false

theorem own : ownKnob Try.prog.godebug = none := by kernel_rfl
theorem laidOut : laidOutB Try.prog = true := by kernel_rfl
theorem cells_b : Try.prog.cellsOf 5 = 1 := by kernel_rfl
set_option maxRecDepth 20000 in
theorem contract (H : Type) (enc : TypeId × Value → H) (W : World) (base : Nat) (args : Array Value) (ds gs : List (DataW H)) (before : List MemPlace)
    (hval : ∀ (j : Nat) t v, Try.f3.params[j]? = some t → args[j]? = some v → Value.okWide Try.prog W .any base t v)
    (hW : DataW.Whole enc Try.prog Try.f3.params.toList Rows.fnTokensSpec.vars false W args.toList ds gs before) :
    Calls Try.prog 3 args W fun e W' => ∃ v, e = .returned v ∧ Rows.fnTokensSpec.post enc Try.prog Try.f3 false true false false W args v W' := by
  have hW' := hW
  obtain ⟨p, q, hA0, hV, rfl, hfz, hnd⟩ := hW
  have hA : DataW.TrodAll enc Try.prog W 0 (fun _ => true) true Try.f3.params.toList args.toList ds p := hA0
  rw [Try.params3] at hA hval
  obtain ⟨v0, vs0, d0, ds0, p0, q0, hargs, rfl, rfl, h0, r0⟩ := trodAll_cons hA
  obtain ⟨v1, vs1, d1, ds1, p1, q1, rfl, rfl, rfl, h1, r1⟩ := trodAll_cons r0
  obtain ⟨rfl, rfl, rfl⟩ := trodAll_nil r1
  obtain rfl : args = #[v0, v1] := by cases args; simp_all
  obtain ⟨rfl, rfl⟩ := trodVars_none hV
  obtain ⟨xs0, row0, len0, wf0⟩ := open_row Try.underlying22 Try.underlying5 cells_b (hval 0 22 v0 rfl rfl) h0
  obtain ⟨xs1, row1, len1, wf1⟩ := open_row Try.underlying22 Try.underlying5 cells_b (hval 1 22 v1 rfl rfl) h1
  refine (fnTokens_walk v0 xs0 v1 xs1 len0 wf0 len1 wf1 W row0 row1).mono fun e W' ⟨he, hb⟩ => ?_
  subst he
  exact ⟨_, rfl, law_post laidOut (by kernel_rfl) (by kernel_rfl) (by kernel_rfl) Try.underlying4 hW' rfl hb⟩

theorem laid_met (os : Os) : laidMet Try.prog Rows.fnTokensRow.laid ((World.holding Try.prog os ⟨#[], #[], []⟩).forCall (fun _ _ => 0) ⟨#[], #[.slice none 0 0, .slice none 0 0], []⟩).memory :=
  laidMet_of_run' 8 (by kernel_rfl) (by kernel_rfl)
theorem reads (os : Os) {H : Type} (enc : TypeId × Value → H) : ∃ places, DataW.whole enc Try.prog ((World.holding Try.prog os ⟨#[], #[], []⟩).forCall (fun _ _ => 0) ⟨#[], #[.slice none 0 0, .slice none 0 0], []⟩).memory Try.f3.params.toList Rows.fnTokensSpec.vars false #[(.slice none 0 0 : Value), .slice none 0 0].toList 8 = some ([.nil, .nil], [], places) :=
  ⟨[], by kernel_rfl⟩

set_option maxRecDepth 100000 in
theorem lifted (os : Os) (started : os.Started) (H : Type) (enc : TypeId × Value → H) (F : Stop.Interp) :
    ReturnsInHanded {} Try.checked os 3 .any ((OpenSpec.ofChange Rows.fnTokensSpec).preRow enc Try.prog Try.f3 Rows.fnTokensRow.domain false Rows.fnTokensRow.laid) (((OpenSpec.ofChange Rows.fnTokensSpec).at F).post enc Try.prog Try.f3 false true false false) := by
  obtain ⟨places, hx⟩ := reads os enc
  refine returnsInHanded_of_row (C := Try.checked) (s := OpenSpec.ofChange Rows.fnTokensSpec) own started (by kernel_rfl) Try.func3
    (witness_row_at (enc := enc) (C := Try.checked) false (World.holding Try.prog os ⟨#[], #[], []⟩) #[.slice none 0 0, .slice none 0 0] rfl (by kernel_rfl) (by kernel_rfl) (by kernel_rfl)
      (OpenSpec.preRow_of_cond 8 hx (by kernel_rfl) (fun k hk => by cases hk) (by kernel_rfl) (laid_met os))) ?_
  intro W base args ds gs before hval hW _ _ _ hL _ _
  exact contract H enc W base args ds gs before hval hW

theorem said : Rows.FnTokensSaid :=
  OpenClaim.holds_of_cond 3 Try.f3 rfl rfl rfl rfl rfl rfl rfl ⟨rfl, rfl, rfl, rfl, rfl⟩ rfl rfl rfl rfl rfl (by kernel_rfl) Try.func3 (by kernel_rfl)
    (of_decide_eq_true (by kernel_rfl)) (by unfold Func.isWrapper; first | (rw [if_pos (by decide +kernel)]; kernel_rfl) | (rw [if_neg (by decide +kernel)]; exact ⟨rfl, rfl⟩))
    (fun os started H enc _ F => by rw [OpenClaim.pre_eq_preRow]; exact lifted os started H enc F)

end Go.Proofs.Ytkpmdcmgcdnpfaa.fnTokens

namespace Go.Proofs.Ytkpmdcmgcdnpfaa
theorem fnTokens_holds : Rows.FnTokensSaid := fnTokens.said
#print axioms fnTokens_holds
end Go.Proofs.Ytkpmdcmgcdnpfaa
