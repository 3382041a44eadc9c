import Derived.Test.YteekpdmblododaaTkA
namespace Go.Proofs.Yteekpdmblododaa
open Go.RowKit
set_option linter.unusedVariables false

/-- A token. -/
def tokM (ks ads : List Int) (t : Int) (os : List Int) : List Int := sealV (keysV ks) 0 ads (tokB t os)
theorem tokM_length (ks ads : List Int) (t : Int) (os : List Int) : (tokM ks ads t os).length = 16 + os.length := by unfold tokM; rw [sealV_length, tokB_length]; omega
theorem tokB_bytes (t : Int) (os : List Int) (h : Bytes os) : Bytes (tokB t os) := bytes_append (be_bytes _ _) h
theorem own_formT {w : World} {base e s n : Nat} {v : Value} {xs : List Value} (h : w.ownsRow base e s v n xs) : ∃ a c, v = .slice a n c := by
  rcases h.2 with ⟨rfl, rfl⟩ | ⟨g, c, cur, rfl, _⟩
  · exact ⟨_, _, rfl⟩
  · exact ⟨_, _, rfl⟩
set_option maxRecDepth 20000 in
set_option maxHeartbeats 4000000 in
theorem tmkS_ok (ak aa ao : Option Addr) (m l pk pa po : Nat) (t : Int) (ks ads os : List Int) (w : World) (h24 : m ≤ 24) (ht : 0 ≤ t ∧ t ≤ 1000000000000) (h8 : l ≤ 8)
    (hk : Row w .u8 (.slice ak 16 pk) ks) (ha : Row w .u8 (.slice aa m pa) ads) (ho : Row w .u8 (.slice ao l po) os) (lk : ks.length = 16) (la : ads.length = m) (lo : os.length = l) (bk : Bytes ks) (ba : Bytes ads) (bo : Bytes os) :
    Calls Try.prog 5 #[.slice ak 16 pk, .slice aa m pa, .int .i64 t, .slice ao l po] w fun e w' => ∃ r, e = .returned (.tuple #[r, .int .i64 0]) ∧ w'.ownsRow w.heap.size 5 1 r (tokM ks ads t os).length ((tokM ks ads t os).map (Value.int .u8)) ∧ Below w.heap.size w w' := by
  have HT : Hid _ := And.intro ht True.intro
  have HR : Hid _ := And.intro hk (And.intro ha ho)
  have HL : Hid _ := And.intro lk (And.intro la lo)
  have HB : Hid _ := And.intro bk (And.intro ba bo)
  clear ht hk ha ho lk la lo bk ba bo
  go_enter Try.func5, Try.ntmps5
  go_wp2_with fail
  go_at_call 13
  refine (taS_t ak aa m pk pa t w h24 HT.out.1).mono ?_
  rintro e w2 ⟨rfl, rfl⟩
  go_wp2_with fail
  go_at_call 15
  refine (specKeysOf _ ks _ HR.out.1 HB.out.1 (by rw [HL.out.1]; decide)).mono ?_
  rintro e w1 ⟨vk, rfl, ok, b1⟩
  have H1 : Hid _ := And.intro ok b1
  have z1 : w2.heap.size ≤ w1.heap.size := b1.size
  clear ok b1
  go_wp2_with fail
  go_at_call 16
  refine (digits 8 t w1 HT.out.1.1 (by have := HT.out.1.2; omega) (by decide)).mono ?_
  rintro e w3 ⟨vd, rfl, od, b3⟩
  obtain ⟨gd, pd, rfl, gd0, gd1⟩ := owns_shape od (by decide)
  have H3 : Hid _ := And.intro od (And.intro b3 (H1.out.2.trans (b3.mono H1.out.2.size)))
  have z3 : w1.heap.size ≤ w3.heap.size := b3.size
  clear od b3
  go_wp2_with (first
    | (at_builtin; refine wpList_append_row rfl (.tmp 25) (.tmp 26) rfl w1.heap.size _ 8 (be t 8) rfl H3.out.1 (.slice ao l po) os rfl (HR.out.2.2.below H3.out.2.2) (by have := HL.out.2.2; omega) (by omega) ?_; intro q5 w5 o5 g5; have H5 : Hid _ := And.intro o5 (H3.out.2.1.grown g5 H3.out.2.1.size (by intro k hk; cases hk; omega)); have F5 := own_formT o5; obtain ⟨a5, c5, f5⟩ := F5; rw [HL.out.2.2] at f5; subst f5; clear o5 g5))
  go_at_call 14
  have K5 := KOwns.row (KOwns.below H1.out.1 H5.out.2)
  have B5 := H1.out.2.trans (H5.out.2.mono H1.out.2.size)
  have R5 := row_of_owns H5.out.1
  have A5 := HR.out.2.1.below B5
  have T5 := seal_ok vk aa a5 pa c5 (keysV ks) 0 ads (tokB t os) w5 K5 (keysV_bytes ks HB.out.1) (keysV_kok ks HL.out.1) (by decide) (by decide) (by rw [tokB_length, HL.out.2.1, HL.out.2.2]; omega) (by rw [HL.out.2.1]; exact A5) (by rw [tokB_length, HL.out.2.2]; exact R5) HB.out.2.1 (tokB_bytes t os HB.out.2.2)
  rw [HL.out.2.1, tokB_length, HL.out.2.2] at T5
  refine T5.mono ?_
  rintro e w6 ⟨r6, rfl, o6, b6⟩
  have H6 : Hid _ := And.intro (owns_mono o6 B5.size) (B5.trans (b6.mono B5.size))
  clear K5 B5 R5 A5 T5 o6 b6
  go_wp2
  go_ret2
  exact ⟨_, rfl, H6.out.1, H6.out.2⟩
set_option maxRecDepth 20000 in
set_option maxHeartbeats 4000000 in
theorem tmkI_ok (ak aa ao : Option Addr) (m l pk pa po : Nat) (t : Int) (ks ads os : List Int) (w : World) (h24 : m ≤ 24) (ht : 0 ≤ t ∧ t ≤ 1000000000000) (h8 : l ≤ 8)
    (hk : Row w .u8 (.slice ak 16 pk) ks) (ha : Row w .u8 (.slice aa m pa) ads) (ho : Row w .u8 (.slice ao l po) os) (lk : ks.length = 16) (la : ads.length = m) (lo : os.length = l) (bk : Bytes ks) (ba : Bytes ads) (bo : Bytes os) :
    Calls Try.prog 7 #[.slice ak 16 pk, .slice aa m pa, .int .i64 t, .slice ao l po] w fun e w' => ∃ r, e = .returned (.tuple #[r, .int .i64 0]) ∧ w'.ownsRow w.heap.size 5 1 r (tokM ks ads t os).length ((tokM ks ads t os).map (Value.int .u8)) ∧ Below w.heap.size w w' := by
  have HT : Hid _ := And.intro ht True.intro
  have HR : Hid _ := And.intro hk (And.intro ha ho)
  have HL : Hid _ := And.intro lk (And.intro la lo)
  have HB : Hid _ := And.intro bk (And.intro ba bo)
  clear ht hk ha ho lk la lo bk ba bo
  go_enter Try.func7, Try.ntmps7
  go_wp2_with fail
  go_at_call 17
  refine (taI_t ak aa m pk pa t w h24 HT.out.1).mono ?_
  rintro e w2 ⟨rfl, rfl⟩
  go_wp2_with fail
  go_at_call 18
  refine (icids _ [os] _ (parts1 HR.out.2.2 _) (by simp) (cids1_len os (by rw [HL.out.2.2]; omega))).mono ?_
  rw [cids1 l os HL.out.2.2, decide_eq_true h8]
  rintro e w' ⟨rfl, hw⟩
  subst w'
  have B0 : Below w2.heap.size w2 (w2.alloc (.cells #[.slice ao l po] 22)) := (Below.refl _ _).alloc (Nat.le_refl _) _
  have HW : Hid (∃ w0 : World, w0 = w2.alloc (.cells #[.slice ao l po] 22)) := ⟨_, rfl⟩
  obtain ⟨w0, ew0⟩ := HW.out
  rw [← ew0] at B0 ⊢
  have H0 : Hid _ := And.intro B0 True.intro
  have z0 : w2.heap.size ≤ w0.heap.size := B0.size
  clear B0 ew0 HW
  go_wp2_with fail
  go_at_call 20
  refine (implKeysOf _ ks _ (HR.out.1.below H0.out.1) HB.out.1 (by rw [HL.out.1]; decide)).mono ?_
  rintro e w1 ⟨vk, rfl, ok, b1⟩
  have H1 : Hid _ := And.intro ok (H0.out.1.trans (b1.mono H0.out.1.size))
  have z1 : w2.heap.size ≤ w1.heap.size := H1.out.2.size
  clear ok b1
  go_wp2_with fail
  go_at_call 21
  rw [show IntKind.u64.wrap t = t by rw [IntKind.wrap_u64]; have := HT.out.1; omega]
  refine (high t 8 w1 HT.out.1.1 (by have := HT.out.1.2; omega) (by decide)).mono ?_
  rintro e w3 ⟨vd, rfl, od, b3⟩
  obtain ⟨gd, pd, rfl, gd0, gd1⟩ := owns_shape od (by decide)
  have H3 : Hid _ := And.intro od (And.intro b3 (H1.out.2.trans (b3.mono H1.out.2.size)))
  have z3 : w1.heap.size ≤ w3.heap.size := b3.size
  clear od b3
  go_wp2_with (first
    | (at_builtin; refine wpList_append_row rfl (.tmp 26) (.tmp 27) rfl w1.heap.size _ 8 (be t 8) rfl H3.out.1 (.slice ao l po) os rfl (HR.out.2.2.below H3.out.2.2) (by have := HL.out.2.2; omega) (by omega) ?_; intro q5 w5 o5 g5; have H5 : Hid _ := And.intro o5 (H3.out.2.1.grown g5 H3.out.2.1.size (by intro k hk; cases hk; omega)); have F5 := own_formT o5; obtain ⟨a5, c5, f5⟩ := F5; rw [HL.out.2.2] at f5; subst f5; clear o5 g5))
  go_at_call 19
  have K5 := KOwns.row (KOwns.below H1.out.1 H5.out.2)
  have B5 := H1.out.2.trans (H5.out.2.mono H1.out.2.size)
  have R5 := row_of_owns H5.out.1
  have A5 := HR.out.2.1.below B5
  have T5 := iseal_ok vk aa a5 pa c5 (keysV ks) 0 ads (tokB t os) w5 K5 (keysV_bytes ks HB.out.1) (keysV_kok ks HL.out.1) (by decide) (by decide) (by rw [tokB_length, HL.out.2.1, HL.out.2.2]; omega) (by rw [HL.out.2.1]; exact A5) (by rw [tokB_length, HL.out.2.2]; exact R5) HB.out.2.1 (tokB_bytes t os HB.out.2.2)
  rw [HL.out.2.1, tokB_length, HL.out.2.2] at T5
  refine T5.mono ?_
  rintro e w6 ⟨r6, rfl, o6, b6⟩
  have H6 : Hid _ := And.intro (owns_mono o6 B5.size) (B5.trans (b6.mono B5.size))
  clear K5 B5 R5 A5 T5 o6 b6
  go_wp2
  go_ret2
  exact ⟨_, rfl, H6.out.1, H6.out.2⟩
end Go.Proofs.Yteekpdmblododaa
