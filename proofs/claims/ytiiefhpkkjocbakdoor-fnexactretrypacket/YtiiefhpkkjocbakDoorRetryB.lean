import Derived.Test.YtiiefhpkkjocbakDoorRetryS
import Derived.Test.YtiiefhpkkjocbakDoorVersS
namespace Go.Proofs.YtiiefhpkkjocbakDoor
open Go.RowKit
set_option linter.unusedVariables false

theorem owns_new0 (w : World) (o : Obj) : ((w.alloc o).alloc (.cells #[] 5)).ownsRow w.heap.size 5 1 (.slice (some ⟨w.heap.size + 1, 0, none⟩) 0 0) 0 (([] : List Int).map (Value.int .u8)) := by
  have es : (w.alloc o).heap.size = w.heap.size + 1 := by simp
  have b := (Below.refl w.heap.size w).alloc (Nat.le_refl _) o
  have h : ((w.alloc o).alloc (.cells #[] 5)).ownsRow w.heap.size 5 1 (.slice (some ⟨(w.alloc o).heap.size, 0, none⟩) 0 0) 0 (([] : List Int).map (Value.int .u8)) := World.ownsRow_lit _ #[] 0 b.size (by decide) rfl
  rw [es] at h
  exact h
/-- A header and an origin of which a retry packet is made. -/
def rok (h : H8) (o : List Int) : Prop := h.f = 3 ∧ vok h.v ∧ h.d.length ≤ 8 ∧ h.s.length ≤ 8 ∧ 1 ≤ h.t.length ∧ h.t.length ≤ 64 ∧ h.n = 0 ∧ h.l = 0 ∧ h.p = 0 ∧ o.length ≤ 8
/-- A retry packet ahead of its tag; the whole. -/
def retO (h : H8) : List Int := ([240] ++ idsV h.v h.d h.s) ++ h.t
def retP (h : H8) (o : List Int) : List Int := retO h ++ retV o (retO h)
theorem retO_length (h : H8) : (retO h).length = 7 + h.d.length + h.s.length + h.t.length := by simp [retO, idsV_length]; omega
theorem be_ok (v : Int) (n : Nat) : Bytes (be v n) := be_bytes v n
theorem idsV_bytes (v : Int) (d s : List Int) (bd : Bytes d) (bs : Bytes s) (hd : d.length ≤ 8) (hs : s.length ≤ 8) : Bytes (idsV v d s) :=
  bytes_app (bytes_app (bytes_app (bytes_app (be_bytes v 4) (bytes_cons (by omega) (by omega) (by intro x hx; simp at hx))) bd) (bytes_cons (by omega) (by omega) (by intro x hx; simp at hx))) bs
theorem retO_bytes (h : H8) (b : h.bytes) (hd : h.d.length ≤ 8) (hs : h.s.length ≤ 8) : Bytes (retO h) :=
  bytes_app (bytes_app (bytes_cons (by decide) (by decide) (by intro x hx; simp at hx)) (idsV_bytes _ _ _ b.1 b.2.1 hd hs)) b.2.2
set_option maxRecDepth 20000 in
set_option maxHeartbeats 1000000 in
theorem retS_bad_f (xf xv xn xl xp : Int) (a2 a3 a4 ao : Option Addr) (nd ns nt no p2 p3 p4 po : Nat) (w : World) (hnd : nd ≤ 9223372036854775807) (hns : ns ≤ 9223372036854775807) (hnt : nt ≤ 9223372036854775807) (hno : no ≤ 9223372036854775807)  (bf : xf ≠ 3) :
    Calls Tryd.prog 16 #[.agg #[.int .i64 xf, .int .i64 xv, .slice a2 nd p2, .slice a3 ns p3, .slice a4 nt p4, .int .i64 xn, .int .i64 xl, .int .i64 xp], .slice ao no po] w fun e w' => ∃ r, e = .returned (.tuple #[r, .int .i64 1]) ∧ w'.ownsRow w.heap.size 5 1 r 0 (([] : List Int).map (Value.int .u8)) ∧ Below w.heap.size w w' := by
  have hne : (xf != 3) = true := by simp; omega
  have HB : Hid (Below w.heap.size w (w.alloc (.cells #[.int .i64 xf, .int .i64 xv, .slice a2 nd p2, .slice a3 ns p3, .slice a4 nt p4, .int .i64 xn, .int .i64 xl, .int .i64 xp] 36))) := (Below.refl _ _).alloc (Nat.le_refl _) _
  go_enter Tryd.func16, Tryd.ntmps16
  go_wp2
  go_ret2
  exact ⟨_, rfl, owns_new0 w _, HB.out.alloc HB.out.size _⟩
set_option maxRecDepth 20000 in
set_option maxHeartbeats 1000000 in
theorem retS_bad_v (xf xv xn xl xp : Int) (a2 a3 a4 ao : Option Addr) (nd ns nt no p2 p3 p4 po : Nat) (w : World) (hnd : nd ≤ 9223372036854775807) (hns : ns ≤ 9223372036854775807) (hnt : nt ≤ 9223372036854775807) (hno : no ≤ 9223372036854775807) (gf : xf = 3) (bv : ¬ vok xv) :
    Calls Tryd.prog 16 #[.agg #[.int .i64 xf, .int .i64 xv, .slice a2 nd p2, .slice a3 ns p3, .slice a4 nt p4, .int .i64 xn, .int .i64 xl, .int .i64 xp], .slice ao no po] w fun e w' => ∃ r, e = .returned (.tuple #[r, .int .i64 1]) ∧ w'.ownsRow w.heap.size 5 1 r 0 (([] : List Int).map (Value.int .u8)) ∧ Below w.heap.size w w' := by
  subst gf
  have HB : Hid (Below w.heap.size w (w.alloc (.cells #[.int .i64 3, .int .i64 xv, .slice a2 nd p2, .slice a3 ns p3, .slice a4 nt p4, .int .i64 xn, .int .i64 xl, .int .i64 xp] 36))) := (Below.refl _ _).alloc (Nat.le_refl _) _
  go_enter Tryd.func16, Tryd.ntmps16
  go_wp2_with (go_at_call 34; refine (sVbad xv _ bv).mono ?_; rintro e w' ⟨rfl, hw⟩; subst w')
  go_ret2
  exact ⟨_, rfl, owns_new0 w _, HB.out.alloc HB.out.size _⟩
set_option maxRecDepth 20000 in
set_option maxHeartbeats 1000000 in
theorem retS_bad_d (xf xv xn xl xp : Int) (a2 a3 a4 ao : Option Addr) (nd ns nt no p2 p3 p4 po : Nat) (w : World) (hnd : nd ≤ 9223372036854775807) (hns : ns ≤ 9223372036854775807) (hnt : nt ≤ 9223372036854775807) (hno : no ≤ 9223372036854775807) (gf : xf = 3) (gv : vok xv) (bd : 8 < nd) :
    Calls Tryd.prog 16 #[.agg #[.int .i64 xf, .int .i64 xv, .slice a2 nd p2, .slice a3 ns p3, .slice a4 nt p4, .int .i64 xn, .int .i64 xl, .int .i64 xp], .slice ao no po] w fun e w' => ∃ r, e = .returned (.tuple #[r, .int .i64 1]) ∧ w'.ownsRow w.heap.size 5 1 r 0 (([] : List Int).map (Value.int .u8)) ∧ Below w.heap.size w w' := by
  subst gf
  have HB : Hid (Below w.heap.size w (w.alloc (.cells #[.int .i64 3, .int .i64 xv, .slice a2 nd p2, .slice a3 ns p3, .slice a4 nt p4, .int .i64 xn, .int .i64 xl, .int .i64 xp] 36))) := (Below.refl _ _).alloc (Nat.le_refl _) _
  go_enter Tryd.func16, Tryd.ntmps16
  go_wp2_with (go_at_call 34; refine (sVok xv _ gv).mono ?_; rintro e w' ⟨rfl, hw⟩; subst w')
  go_ret2
  exact ⟨_, rfl, owns_new0 w _, HB.out.alloc HB.out.size _⟩
set_option maxRecDepth 20000 in
set_option maxHeartbeats 1000000 in
theorem retS_bad_s (xf xv xn xl xp : Int) (a2 a3 a4 ao : Option Addr) (nd ns nt no p2 p3 p4 po : Nat) (w : World) (hnd : nd ≤ 9223372036854775807) (hns : ns ≤ 9223372036854775807) (hnt : nt ≤ 9223372036854775807) (hno : no ≤ 9223372036854775807) (gf : xf = 3) (gv : vok xv) (gd : nd ≤ 8) (bs : 8 < ns) :
    Calls Tryd.prog 16 #[.agg #[.int .i64 xf, .int .i64 xv, .slice a2 nd p2, .slice a3 ns p3, .slice a4 nt p4, .int .i64 xn, .int .i64 xl, .int .i64 xp], .slice ao no po] w fun e w' => ∃ r, e = .returned (.tuple #[r, .int .i64 1]) ∧ w'.ownsRow w.heap.size 5 1 r 0 (([] : List Int).map (Value.int .u8)) ∧ Below w.heap.size w w' := by
  subst gf
  have HB : Hid (Below w.heap.size w (w.alloc (.cells #[.int .i64 3, .int .i64 xv, .slice a2 nd p2, .slice a3 ns p3, .slice a4 nt p4, .int .i64 xn, .int .i64 xl, .int .i64 xp] 36))) := (Below.refl _ _).alloc (Nat.le_refl _) _
  go_enter Tryd.func16, Tryd.ntmps16
  go_wp2_with (go_at_call 34; refine (sVok xv _ gv).mono ?_; rintro e w' ⟨rfl, hw⟩; subst w')
  go_ret2
  exact ⟨_, rfl, owns_new0 w _, HB.out.alloc HB.out.size _⟩
set_option maxRecDepth 20000 in
set_option maxHeartbeats 1000000 in
theorem retS_bad_t1 (xf xv xn xl xp : Int) (a2 a3 a4 ao : Option Addr) (nd ns nt no p2 p3 p4 po : Nat) (w : World) (hnd : nd ≤ 9223372036854775807) (hns : ns ≤ 9223372036854775807) (hnt : nt ≤ 9223372036854775807) (hno : no ≤ 9223372036854775807) (gf : xf = 3) (gv : vok xv) (gd : nd ≤ 8) (gs : ns ≤ 8) (bt1 : nt < 1) :
    Calls Tryd.prog 16 #[.agg #[.int .i64 xf, .int .i64 xv, .slice a2 nd p2, .slice a3 ns p3, .slice a4 nt p4, .int .i64 xn, .int .i64 xl, .int .i64 xp], .slice ao no po] w fun e w' => ∃ r, e = .returned (.tuple #[r, .int .i64 1]) ∧ w'.ownsRow w.heap.size 5 1 r 0 (([] : List Int).map (Value.int .u8)) ∧ Below w.heap.size w w' := by
  subst gf
  have HB : Hid (Below w.heap.size w (w.alloc (.cells #[.int .i64 3, .int .i64 xv, .slice a2 nd p2, .slice a3 ns p3, .slice a4 nt p4, .int .i64 xn, .int .i64 xl, .int .i64 xp] 36))) := (Below.refl _ _).alloc (Nat.le_refl _) _
  go_enter Tryd.func16, Tryd.ntmps16
  go_wp2_with (go_at_call 34; refine (sVok xv _ gv).mono ?_; rintro e w' ⟨rfl, hw⟩; subst w')
  go_ret2
  exact ⟨_, rfl, owns_new0 w _, HB.out.alloc HB.out.size _⟩
set_option maxRecDepth 20000 in
set_option maxHeartbeats 1000000 in
theorem retS_bad_t2 (xf xv xn xl xp : Int) (a2 a3 a4 ao : Option Addr) (nd ns nt no p2 p3 p4 po : Nat) (w : World) (hnd : nd ≤ 9223372036854775807) (hns : ns ≤ 9223372036854775807) (hnt : nt ≤ 9223372036854775807) (hno : no ≤ 9223372036854775807) (gf : xf = 3) (gv : vok xv) (gd : nd ≤ 8) (gs : ns ≤ 8) (gt1 : 1 ≤ nt) (bt2 : 64 < nt) :
    Calls Tryd.prog 16 #[.agg #[.int .i64 xf, .int .i64 xv, .slice a2 nd p2, .slice a3 ns p3, .slice a4 nt p4, .int .i64 xn, .int .i64 xl, .int .i64 xp], .slice ao no po] w fun e w' => ∃ r, e = .returned (.tuple #[r, .int .i64 1]) ∧ w'.ownsRow w.heap.size 5 1 r 0 (([] : List Int).map (Value.int .u8)) ∧ Below w.heap.size w w' := by
  subst gf
  have HB : Hid (Below w.heap.size w (w.alloc (.cells #[.int .i64 3, .int .i64 xv, .slice a2 nd p2, .slice a3 ns p3, .slice a4 nt p4, .int .i64 xn, .int .i64 xl, .int .i64 xp] 36))) := (Below.refl _ _).alloc (Nat.le_refl _) _
  go_enter Tryd.func16, Tryd.ntmps16
  go_wp2_with (go_at_call 34; refine (sVok xv _ gv).mono ?_; rintro e w' ⟨rfl, hw⟩; subst w')
  go_ret2
  exact ⟨_, rfl, owns_new0 w _, HB.out.alloc HB.out.size _⟩
set_option maxRecDepth 20000 in
set_option maxHeartbeats 1000000 in
theorem retS_bad_n (xf xv xn xl xp : Int) (a2 a3 a4 ao : Option Addr) (nd ns nt no p2 p3 p4 po : Nat) (w : World) (hnd : nd ≤ 9223372036854775807) (hns : ns ≤ 9223372036854775807) (hnt : nt ≤ 9223372036854775807) (hno : no ≤ 9223372036854775807) (gf : xf = 3) (gv : vok xv) (gd : nd ≤ 8) (gs : ns ≤ 8) (gt1 : 1 ≤ nt) (gt2 : nt ≤ 64) (bn : xn ≠ 0) :
    Calls Tryd.prog 16 #[.agg #[.int .i64 xf, .int .i64 xv, .slice a2 nd p2, .slice a3 ns p3, .slice a4 nt p4, .int .i64 xn, .int .i64 xl, .int .i64 xp], .slice ao no po] w fun e w' => ∃ r, e = .returned (.tuple #[r, .int .i64 1]) ∧ w'.ownsRow w.heap.size 5 1 r 0 (([] : List Int).map (Value.int .u8)) ∧ Below w.heap.size w w' := by
  subst gf
  have hne : (xn != 0) = true := by simp; omega
  have HB : Hid (Below w.heap.size w (w.alloc (.cells #[.int .i64 3, .int .i64 xv, .slice a2 nd p2, .slice a3 ns p3, .slice a4 nt p4, .int .i64 xn, .int .i64 xl, .int .i64 xp] 36))) := (Below.refl _ _).alloc (Nat.le_refl _) _
  go_enter Tryd.func16, Tryd.ntmps16
  go_wp2_with (go_at_call 34; refine (sVok xv _ gv).mono ?_; rintro e w' ⟨rfl, hw⟩; subst w')
  go_ret2
  exact ⟨_, rfl, owns_new0 w _, HB.out.alloc HB.out.size _⟩
set_option maxRecDepth 20000 in
set_option maxHeartbeats 1000000 in
theorem retS_bad_l (xf xv xn xl xp : Int) (a2 a3 a4 ao : Option Addr) (nd ns nt no p2 p3 p4 po : Nat) (w : World) (hnd : nd ≤ 9223372036854775807) (hns : ns ≤ 9223372036854775807) (hnt : nt ≤ 9223372036854775807) (hno : no ≤ 9223372036854775807) (gf : xf = 3) (gv : vok xv) (gd : nd ≤ 8) (gs : ns ≤ 8) (gt1 : 1 ≤ nt) (gt2 : nt ≤ 64) (gn : xn = 0) (bl : xl ≠ 0) :
    Calls Tryd.prog 16 #[.agg #[.int .i64 xf, .int .i64 xv, .slice a2 nd p2, .slice a3 ns p3, .slice a4 nt p4, .int .i64 xn, .int .i64 xl, .int .i64 xp], .slice ao no po] w fun e w' => ∃ r, e = .returned (.tuple #[r, .int .i64 1]) ∧ w'.ownsRow w.heap.size 5 1 r 0 (([] : List Int).map (Value.int .u8)) ∧ Below w.heap.size w w' := by
  subst gf
  subst gn
  have hne : (xl != 0) = true := by simp; omega
  have HB : Hid (Below w.heap.size w (w.alloc (.cells #[.int .i64 3, .int .i64 xv, .slice a2 nd p2, .slice a3 ns p3, .slice a4 nt p4, .int .i64 0, .int .i64 xl, .int .i64 xp] 36))) := (Below.refl _ _).alloc (Nat.le_refl _) _
  go_enter Tryd.func16, Tryd.ntmps16
  go_wp2_with (go_at_call 34; refine (sVok xv _ gv).mono ?_; rintro e w' ⟨rfl, hw⟩; subst w')
  go_ret2
  exact ⟨_, rfl, owns_new0 w _, HB.out.alloc HB.out.size _⟩
set_option maxRecDepth 20000 in
set_option maxHeartbeats 1000000 in
theorem retS_bad_p (xf xv xn xl xp : Int) (a2 a3 a4 ao : Option Addr) (nd ns nt no p2 p3 p4 po : Nat) (w : World) (hnd : nd ≤ 9223372036854775807) (hns : ns ≤ 9223372036854775807) (hnt : nt ≤ 9223372036854775807) (hno : no ≤ 9223372036854775807) (gf : xf = 3) (gv : vok xv) (gd : nd ≤ 8) (gs : ns ≤ 8) (gt1 : 1 ≤ nt) (gt2 : nt ≤ 64) (gn : xn = 0) (gl : xl = 0) (bp : xp ≠ 0) :
    Calls Tryd.prog 16 #[.agg #[.int .i64 xf, .int .i64 xv, .slice a2 nd p2, .slice a3 ns p3, .slice a4 nt p4, .int .i64 xn, .int .i64 xl, .int .i64 xp], .slice ao no po] w fun e w' => ∃ r, e = .returned (.tuple #[r, .int .i64 1]) ∧ w'.ownsRow w.heap.size 5 1 r 0 (([] : List Int).map (Value.int .u8)) ∧ Below w.heap.size w w' := by
  subst gf
  subst gn
  subst gl
  have hne : (xp != 0) = true := by simp; omega
  have HB : Hid (Below w.heap.size w (w.alloc (.cells #[.int .i64 3, .int .i64 xv, .slice a2 nd p2, .slice a3 ns p3, .slice a4 nt p4, .int .i64 0, .int .i64 0, .int .i64 xp] 36))) := (Below.refl _ _).alloc (Nat.le_refl _) _
  go_enter Tryd.func16, Tryd.ntmps16
  go_wp2_with (go_at_call 34; refine (sVok xv _ gv).mono ?_; rintro e w' ⟨rfl, hw⟩; subst w')
  go_ret2
  exact ⟨_, rfl, owns_new0 w _, HB.out.alloc HB.out.size _⟩
set_option maxRecDepth 20000 in
set_option maxHeartbeats 1000000 in
theorem retS_bad_o (xf xv xn xl xp : Int) (a2 a3 a4 ao : Option Addr) (nd ns nt no p2 p3 p4 po : Nat) (w : World) (hnd : nd ≤ 9223372036854775807) (hns : ns ≤ 9223372036854775807) (hnt : nt ≤ 9223372036854775807) (hno : no ≤ 9223372036854775807) (gf : xf = 3) (gv : vok xv) (gd : nd ≤ 8) (gs : ns ≤ 8) (gt1 : 1 ≤ nt) (gt2 : nt ≤ 64) (gn : xn = 0) (gl : xl = 0) (gp : xp = 0) (bo : 8 < no) :
    Calls Tryd.prog 16 #[.agg #[.int .i64 xf, .int .i64 xv, .slice a2 nd p2, .slice a3 ns p3, .slice a4 nt p4, .int .i64 xn, .int .i64 xl, .int .i64 xp], .slice ao no po] w fun e w' => ∃ r, e = .returned (.tuple #[r, .int .i64 1]) ∧ w'.ownsRow w.heap.size 5 1 r 0 (([] : List Int).map (Value.int .u8)) ∧ Below w.heap.size w w' := by
  subst gf
  subst gn
  subst gl
  subst gp
  have HB : Hid (Below w.heap.size w (w.alloc (.cells #[.int .i64 3, .int .i64 xv, .slice a2 nd p2, .slice a3 ns p3, .slice a4 nt p4, .int .i64 0, .int .i64 0, .int .i64 0] 36))) := (Below.refl _ _).alloc (Nat.le_refl _) _
  go_enter Tryd.func16, Tryd.ntmps16
  go_wp2_with (go_at_call 34; refine (sVok xv _ gv).mono ?_; rintro e w' ⟨rfl, hw⟩; subst w')
  go_ret2
  exact ⟨_, rfl, owns_new0 w _, HB.out.alloc HB.out.size _⟩
theorem retS_bad (v : Value) (h : H8) (ao : Option Addr) (po : Nat) (o : List Int) (w : World) (hr : HRow w v h) (hs : h.small 9223372036854775807) (ho : o.length ≤ 9223372036854775807) (hb : ¬ rok h o) :
    Calls Tryd.prog 16 #[v, .slice ao o.length po] w fun e w' => ∃ r, e = .returned (.tuple #[r, .int .i64 1]) ∧ w'.ownsRow w.heap.size 5 1 r 0 (([] : List Int).map (Value.int .u8)) ∧ Below w.heap.size w w' := by
  obtain ⟨xf, xv, xd, xs, xt, xn, xl, xp⟩ := h
  obtain ⟨v2, v3, v4, rfl, r2, r3, r4⟩ := hr
  obtain ⟨a2, p2, rfl⟩ := r2.form
  obtain ⟨a3, p3, rfl⟩ := r3.form
  obtain ⟨a4, p4, rfl⟩ := r4.form
  obtain ⟨s0, s1, s2⟩ := hs
  unfold rok at hb
  dsimp only at *
  by_cases gf : xf = 3
  rotate_left
  · exact retS_bad_f xf xv xn xl xp a2 a3 a4 ao _ _ _ _ p2 p3 p4 po w s0 s1 s2 ho  gf
  by_cases gv : vok xv
  rotate_left
  · exact retS_bad_v xf xv xn xl xp a2 a3 a4 ao _ _ _ _ p2 p3 p4 po w s0 s1 s2 ho gf gv
  by_cases gd : xd.length ≤ 8
  rotate_left
  · exact retS_bad_d xf xv xn xl xp a2 a3 a4 ao _ _ _ _ p2 p3 p4 po w s0 s1 s2 ho gf gv (by omega)
  by_cases gs : xs.length ≤ 8
  rotate_left
  · exact retS_bad_s xf xv xn xl xp a2 a3 a4 ao _ _ _ _ p2 p3 p4 po w s0 s1 s2 ho gf gv gd (by omega)
  by_cases gt1 : 1 ≤ xt.length
  rotate_left
  · exact retS_bad_t1 xf xv xn xl xp a2 a3 a4 ao _ _ _ _ p2 p3 p4 po w s0 s1 s2 ho gf gv gd gs (by omega)
  by_cases gt2 : xt.length ≤ 64
  rotate_left
  · exact retS_bad_t2 xf xv xn xl xp a2 a3 a4 ao _ _ _ _ p2 p3 p4 po w s0 s1 s2 ho gf gv gd gs gt1 (by omega)
  by_cases gn : xn = 0
  rotate_left
  · exact retS_bad_n xf xv xn xl xp a2 a3 a4 ao _ _ _ _ p2 p3 p4 po w s0 s1 s2 ho gf gv gd gs gt1 gt2 gn
  by_cases gl : xl = 0
  rotate_left
  · exact retS_bad_l xf xv xn xl xp a2 a3 a4 ao _ _ _ _ p2 p3 p4 po w s0 s1 s2 ho gf gv gd gs gt1 gt2 gn gl
  by_cases gp : xp = 0
  rotate_left
  · exact retS_bad_p xf xv xn xl xp a2 a3 a4 ao _ _ _ _ p2 p3 p4 po w s0 s1 s2 ho gf gv gd gs gt1 gt2 gn gl gp
  by_cases go : o.length ≤ 8
  · exact absurd ⟨gf, gv, gd, gs, gt1, gt2, gn, gl, gp, go⟩ hb
  · exact retS_bad_o xf xv xn xl xp a2 a3 a4 ao _ _ _ _ p2 p3 p4 po w s0 s1 s2 ho gf gv gd gs gt1 gt2 gn gl gp (by omega)
end Go.Proofs.YtiiefhpkkjocbakDoor
