import Derived.Test.YtaodcahkkeobdaaFrameQ
import Derived.Test.YtaodcahkkeobdaaOwnR
import Derived.Test.YtaodcahkkeobdaaKindF
namespace Go.Proofs.Ytaodcahkkeobdaa
open Go.RowKit
set_option linter.unusedVariables false

/-- Both sides answer s for this frame, wherever its lists lie. -/
def Both (k a b c : Int) (fin : Bool) (nd nt nr : Nat) (R : List (Int × Int)) (s : Bool) : Prop :=
  (∀ (ad at' ar : Option Addr) (pd pt pr : Nat) (w : World), RRow w (.slice ar nr pr) R → Calls Try.prog 33 #[.agg #[.int .i64 k, .int .i64 a, .int .i64 b, .int .i64 c, .bool fin, .slice ad nd pd, .slice at' nt pt, .slice ar nr pr]] w fun e w' => e = .returned (.bool s) ∧ Below w.heap.size w w') ∧
  (∀ (ad at' ar : Option Addr) (pd pt pr : Nat) (w : World), RRow w (.slice ar nr pr) R → Calls Try.prog 25 #[.agg #[.int .i64 k, .int .i64 a, .int .i64 b, .int .i64 c, .bool fin, .slice ad nd pd, .slice at' nt pt, .slice ar nr pr]] w fun e w' => e = .returned (.bool s) ∧ Below w.heap.size w w')
theorem hR_of (R : List (Int × Int)) (nr : Nat) (el : R.length = nr) : decide ((0 : Int) < (nr : Int)) = false → rokV R = true := by
  intro h
  have h0 : nr = 0 := by simpa using h
  subst h0
  obtain rfl : R = [] := List.eq_nil_of_length_eq_zero el
  exact rok_all [] (by simp) (fun j hj => by simp at hj)
theorem nin_b {a b c : Int} (h : (nin a && nin b && nin c) = true) : 0 ≤ b ∧ b ≤ 4611686018427387903 := by
  have h1 : nin b = true := by cases hb : nin b; simp [hb] at h; rfl
  unfold nin at h1
  simpa using h1
set_option maxRecDepth 20000 in
theorem both_padding (a b c : Int) (fin : Bool) (nd nt nr : Nat) (R : List (Int × Int)) (el : R.length = nr) (hnd : nd ≤ 9223372036854775807) (hnr : nr ≤ 9223372036854775807) : Both 0 a b c fin nd nt nr R (okI a b c nd (sfK (bitOf (a != 0) (b != 0) (c != 0) fin ((nd : Int) != 0) ((nt : Int) != 0) ((nr : Int) != 0)) 7) 1 0 0 (decide (1 ≤ a) && decide (a ≤ 1500))) := by
  constructor
  · intro ad at' ar pd pt pr w hr
    rw [← eq_padding a b c fin nd nt nr R (hR_of R nr el)]
    exact specOK 0 a b c fin ad at' ar nd pd nt pt nr pr R true true false false false false 0 0 0 w (fun wx => uses_0 wx) hr el hnd hnr
  · intro ad at' ar pd pt pr w hr
    exact fokC 0 a b c fin ad at' ar nd pd nt pt nr pr (.iface 98 (.agg #[.int .i64 0, .int .i64 a, .int .i64 b, .int .i64 c, .bool fin, .slice ad nd pd, .slice at' nt pt, .slice ar nr pr])) _ 1 0 0 _ w (fun wx => vnC 0 a b c fin ad at' ar nd pd nt pt nr pr wx) (fun wx hq => body_padding a b c fin ad at' ar nd pd nt pt nr pr wx) (fun wx => sfC 0 a b c ad at' ar nd pd nt pt nr pr _ _ _ _ _ _ _ wx rfl rfl rfl rfl rfl rfl) (fun wx => kf_padding _ wx) (fun wx => dl_padding _ wx) (fun wx _ => own_padding 0 a b c fin ad at' ar nd pd nt pt nr pr wx) _ _ rfl
set_option maxRecDepth 20000 in
theorem both_ping (a b c : Int) (fin : Bool) (nd nt nr : Nat) (R : List (Int × Int)) (el : R.length = nr) (hnd : nd ≤ 9223372036854775807) (hnr : nr ≤ 9223372036854775807) : Both 1 a b c fin nd nt nr R (okI a b c nd (sfK (bitOf (a != 0) (b != 0) (c != 0) fin ((nd : Int) != 0) ((nt : Int) != 0) ((nr : Int) != 0)) 7) 0 0 0 (true)) := by
  constructor
  · intro ad at' ar pd pt pr w hr
    rw [← eq_ping a b c fin nd nt nr R (hR_of R nr el)]
    exact specOK 1 a b c fin ad at' ar nd pd nt pt nr pr R true false false false false false 0 0 0 w (fun wx => uses_1 wx) hr el hnd hnr
  · intro ad at' ar pd pt pr w hr
    exact fokC 1 a b c fin ad at' ar nd pd nt pt nr pr (.iface 100 (.agg #[.int .i64 1, .int .i64 a, .int .i64 b, .int .i64 c, .bool fin, .slice ad nd pd, .slice at' nt pt, .slice ar nr pr, .int .i64 1, .int .i64 0])) _ 0 0 0 _ w (fun wx => vnC 1 a b c fin ad at' ar nd pd nt pt nr pr wx) (fun wx hq => body_ping a b c fin ad at' ar nd pd nt pt nr pr wx) (fun wx => sfC 1 a b c ad at' ar nd pd nt pt nr pr _ _ _ _ _ _ _ wx rfl rfl rfl rfl rfl rfl) (fun wx => kf_ping _ wx) (fun wx => dl_ping _ wx) (fun wx _ => own_ping _ wx) _ _ rfl
set_option maxRecDepth 20000 in
theorem both_ack (a b c : Int) (fin : Bool) (nd nt nr : Nat) (R : List (Int × Int)) (el : R.length = nr) (hnd : nd ≤ 9223372036854775807) (hnr : nr ≤ 9223372036854775807) : Both 2 a b c fin nd nt nr R (okI a b c nd (sfK (bitOf (a != 0) (b != 0) (c != 0) fin ((nd : Int) != 0) ((nt : Int) != 0) ((nr : Int) != 0)) 7) 65 0 0 (decide (0 < nr) && rokV R)) := by
  constructor
  · intro ad at' ar pd pt pr w hr
    rw [← eq_ack a b c fin nd nt nr R (hR_of R nr el)]
    exact specOK 2 a b c fin ad at' ar nd pd nt pt nr pr R true true false false false true 0 0 0 w (fun wx => uses_2 wx) hr el hnd hnr
  · intro ad at' ar pd pt pr w hr
    exact fokC 2 a b c fin ad at' ar nd pd nt pt nr pr (.iface 101 (.agg #[.int .i64 2, .int .i64 a, .int .i64 b, .int .i64 c, .bool fin, .slice ad nd pd, .slice at' nt pt, .slice ar nr pr])) _ 65 0 0 _ w (fun wx => vnC 2 a b c fin ad at' ar nd pd nt pt nr pr wx) (fun wx hq => body_ack a b c fin ad at' ar nd pd nt pt nr pr wx) (fun wx => sfC 2 a b c ad at' ar nd pd nt pt nr pr _ _ _ _ _ _ _ wx rfl rfl rfl rfl rfl rfl) (fun wx => kf_ack _ wx) (fun wx => dl_ack _ wx) (fun wx hx => own_ack 2 a b c fin ad at' ar nd pd nt pt nr pr R wx hnr (hr.below (hx)) el) _ _ rfl
set_option maxRecDepth 20000 in
theorem both_reset (a b c : Int) (fin : Bool) (nd nt nr : Nat) (R : List (Int × Int)) (el : R.length = nr) (hnd : nd ≤ 9223372036854775807) (hnr : nr ≤ 9223372036854775807) : Both 4 a b c fin nd nt nr R (okI a b c nd (sfK (bitOf (a != 0) (b != 0) (c != 0) fin ((nd : Int) != 0) ((nt : Int) != 0) ((nr : Int) != 0)) 7) 7 0 0 (true)) := by
  constructor
  · intro ad at' ar pd pt pr w hr
    rw [← eq_reset a b c fin nd nt nr R (hR_of R nr el)]
    exact specOK 4 a b c fin ad at' ar nd pd nt pt nr pr R true true true true false false 0 0 0 w (fun wx => uses_4 wx) hr el hnd hnr
  · intro ad at' ar pd pt pr w hr
    exact fokC 4 a b c fin ad at' ar nd pd nt pt nr pr (.iface 103 (.agg #[.int .i64 4, .int .i64 a, .int .i64 b, .int .i64 c, .bool fin, .slice ad nd pd, .slice at' nt pt, .slice ar nr pr, .int .i64 4, .int .i64 3])) _ 7 0 0 _ w (fun wx => vnC 4 a b c fin ad at' ar nd pd nt pt nr pr wx) (fun wx hq => body_reset a b c fin ad at' ar nd pd nt pt nr pr wx) (fun wx => sfC 4 a b c ad at' ar nd pd nt pt nr pr _ _ _ _ _ _ _ wx rfl rfl rfl rfl rfl rfl) (fun wx => kf_reset _ wx) (fun wx => dl_reset _ wx) (fun wx _ => own_reset _ wx) _ _ rfl
set_option maxRecDepth 20000 in
theorem both_stop (a b c : Int) (fin : Bool) (nd nt nr : Nat) (R : List (Int × Int)) (el : R.length = nr) (hnd : nd ≤ 9223372036854775807) (hnr : nr ≤ 9223372036854775807) : Both 5 a b c fin nd nt nr R (okI a b c nd (sfK (bitOf (a != 0) (b != 0) (c != 0) fin ((nd : Int) != 0) ((nt : Int) != 0) ((nr : Int) != 0)) 7) 3 0 0 (true)) := by
  constructor
  · intro ad at' ar pd pt pr w hr
    rw [← eq_stop a b c fin nd nt nr R (hR_of R nr el)]
    exact specOK 5 a b c fin ad at' ar nd pd nt pt nr pr R true true true false false false 0 0 0 w (fun wx => uses_5 wx) hr el hnd hnr
  · intro ad at' ar pd pt pr w hr
    exact fokC 5 a b c fin ad at' ar nd pd nt pt nr pr (.iface 104 (.agg #[.int .i64 5, .int .i64 a, .int .i64 b, .int .i64 c, .bool fin, .slice ad nd pd, .slice at' nt pt, .slice ar nr pr, .int .i64 5, .int .i64 2])) _ 3 0 0 _ w (fun wx => vnC 5 a b c fin ad at' ar nd pd nt pt nr pr wx) (fun wx hq => body_stop a b c fin ad at' ar nd pd nt pt nr pr wx) (fun wx => sfC 5 a b c ad at' ar nd pd nt pt nr pr _ _ _ _ _ _ _ wx rfl rfl rfl rfl rfl rfl) (fun wx => kf_stop _ wx) (fun wx => dl_stop _ wx) (fun wx _ => own_stop _ wx) _ _ rfl
set_option maxRecDepth 20000 in
theorem both_crypto (a b c : Int) (fin : Bool) (nd nt nr : Nat) (R : List (Int × Int)) (el : R.length = nr) (hnd : nd ≤ 9223372036854775807) (hnr : nr ≤ 9223372036854775807) : Both 6 a b c fin nd nt nr R (okI a b c nd (sfK (bitOf (a != 0) (b != 0) (c != 0) fin ((nd : Int) != 0) ((nt : Int) != 0) ((nr : Int) != 0)) 7) 17 0 1500 (decide (a ≤ 4611686018427387903 - (nd : Int)))) := by
  constructor
  · intro ad at' ar pd pt pr w hr
    rw [← eq_crypto a b c fin nd nt nr R (hR_of R nr el)]
    exact specOK 6 a b c fin ad at' ar nd pd nt pt nr pr R true true false false false false 0 1500 0 w (fun wx => uses_6 wx) hr el hnd hnr
  · intro ad at' ar pd pt pr w hr
    exact fokC 6 a b c fin ad at' ar nd pd nt pt nr pr (.iface 106 (.agg #[.int .i64 6, .int .i64 a, .int .i64 b, .int .i64 c, .bool fin, .slice ad nd pd, .slice at' nt pt, .slice ar nr pr, .int .i64 6, .int .i64 1])) _ 17 0 1500 _ w (fun wx => vnC 6 a b c fin ad at' ar nd pd nt pt nr pr wx) (fun wx hq => body_crypto a b c fin ad at' ar nd pd nt pt nr pr wx) (fun wx => sfC 6 a b c ad at' ar nd pd nt pt nr pr _ _ _ _ _ _ _ wx rfl rfl rfl rfl rfl rfl) (fun wx => kf_crypto _ wx) (fun wx => dl_crypto _ wx) (fun wx _ => own_crypto 6 a b c fin ad at' ar nd pd nt pt nr pr 6 1 wx hnd) _ _ rfl
set_option maxRecDepth 20000 in
theorem both_newToken (a b c : Int) (fin : Bool) (nd nt nr : Nat) (R : List (Int × Int)) (el : R.length = nr) (hnd : nd ≤ 9223372036854775807) (hnr : nr ≤ 9223372036854775807) : Both 7 a b c fin nd nt nr R (okI a b c nd (sfK (bitOf (a != 0) (b != 0) (c != 0) fin ((nd : Int) != 0) ((nt : Int) != 0) ((nr : Int) != 0)) 7) 16 1 64 (true)) := by
  constructor
  · intro ad at' ar pd pt pr w hr
    rw [← eq_newToken a b c fin nd nt nr R (hR_of R nr el)]
    exact specOK 7 a b c fin ad at' ar nd pd nt pt nr pr R true false false false false false 1 64 0 w (fun wx => uses_7 wx) hr el hnd hnr
  · intro ad at' ar pd pt pr w hr
    exact fokC 7 a b c fin ad at' ar nd pd nt pt nr pr (.iface 108 (.agg #[.int .i64 7, .int .i64 a, .int .i64 b, .int .i64 c, .bool fin, .slice ad nd pd, .slice at' nt pt, .slice ar nr pr, .int .i64 7, .int .i64 0])) _ 16 1 64 _ w (fun wx => vnC 7 a b c fin ad at' ar nd pd nt pt nr pr wx) (fun wx hq => body_newToken a b c fin ad at' ar nd pd nt pt nr pr wx) (fun wx => sfC 7 a b c ad at' ar nd pd nt pt nr pr _ _ _ _ _ _ _ wx rfl rfl rfl rfl rfl rfl) (fun wx => kf_newToken _ wx) (fun wx => dl_newToken _ wx) (fun wx _ => own_newToken _ wx) _ _ rfl
set_option maxRecDepth 20000 in
theorem both_stream (a b c : Int) (fin : Bool) (nd nt nr : Nat) (R : List (Int × Int)) (el : R.length = nr) (hnd : nd ≤ 9223372036854775807) (hnr : nr ≤ 9223372036854775807) : Both 8 a b c fin nd nt nr R (okI a b c nd (sfK (bitOf (a != 0) (b != 0) (c != 0) fin ((nd : Int) != 0) ((nt : Int) != 0) ((nr : Int) != 0)) 7) 27 0 1500 (decide (b ≤ 4611686018427387903 - (nd : Int)))) := by
  constructor
  · intro ad at' ar pd pt pr w hr
    rw [← eq_stream a b c fin nd nt nr R (hR_of R nr el)]
    exact specOK 8 a b c fin ad at' ar nd pd nt pt nr pr R true true true false true false 0 1500 0 w (fun wx => uses_8 wx) hr el hnd hnr
  · intro ad at' ar pd pt pr w hr
    by_cases hb : b = 0
    · subst hb
      cases fin
      · exact fokC 8 a 0 c false ad at' ar nd pd nt pt nr pr (.iface 109 (.agg #[.int .i64 8, .int .i64 a, .int .i64 0, .int .i64 c, .bool false, .slice ad nd pd, .slice at' nt pt, .slice ar nr pr, .int .i64 10, .int .i64 1])) _ 27 0 1500 _ w (fun wx => vnC 8 a 0 c false ad at' ar nd pd nt pt nr pr wx) (fun wx hq => body_stream00 a 0 c false ad at' ar nd pd nt pt nr pr wx) (fun wx => sfC 8 a 0 c ad at' ar nd pd nt pt nr pr _ _ _ _ _ _ _ wx rfl rfl rfl rfl rfl rfl) (fun wx => kf_stream _ wx) (fun wx => dl_stream _ wx) (fun wx _ => own_stream 8 a 0 c false ad at' ar nd pd nt pt nr pr 10 1 wx hnd) _ _ rfl
      · exact fokC 8 a 0 c true ad at' ar nd pd nt pt nr pr (.iface 109 (.agg #[.int .i64 8, .int .i64 a, .int .i64 0, .int .i64 c, .bool true, .slice ad nd pd, .slice at' nt pt, .slice ar nr pr, .int .i64 11, .int .i64 1])) _ 27 0 1500 _ w (fun wx => vnC 8 a 0 c true ad at' ar nd pd nt pt nr pr wx) (fun wx hq => body_stream01 a 0 c true ad at' ar nd pd nt pt nr pr wx) (fun wx => sfC 8 a 0 c ad at' ar nd pd nt pt nr pr _ _ _ _ _ _ _ wx rfl rfl rfl rfl rfl rfl) (fun wx => kf_stream _ wx) (fun wx => dl_stream _ wx) (fun wx _ => own_stream 8 a 0 c true ad at' ar nd pd nt pt nr pr 11 1 wx hnd) _ _ rfl
    · cases fin
      · exact fokC 8 a b c false ad at' ar nd pd nt pt nr pr (.iface 109 (.agg #[.int .i64 8, .int .i64 a, .int .i64 b, .int .i64 c, .bool false, .slice ad nd pd, .slice at' nt pt, .slice ar nr pr, .int .i64 14, .int .i64 2])) _ 27 0 1500 _ w (fun wx => vnC 8 a b c false ad at' ar nd pd nt pt nr pr wx) (fun wx hq => body_stream10 a b c false ad at' ar nd pd nt pt nr pr wx hb) (fun wx => sfC 8 a b c ad at' ar nd pd nt pt nr pr _ _ _ _ _ _ _ wx rfl rfl rfl rfl rfl rfl) (fun wx => kf_stream _ wx) (fun wx => dl_stream _ wx) (fun wx _ => own_stream 8 a b c false ad at' ar nd pd nt pt nr pr 14 2 wx hnd) _ _ rfl
      · exact fokC 8 a b c true ad at' ar nd pd nt pt nr pr (.iface 109 (.agg #[.int .i64 8, .int .i64 a, .int .i64 b, .int .i64 c, .bool true, .slice ad nd pd, .slice at' nt pt, .slice ar nr pr, .int .i64 15, .int .i64 2])) _ 27 0 1500 _ w (fun wx => vnC 8 a b c true ad at' ar nd pd nt pt nr pr wx) (fun wx hq => body_stream11 a b c true ad at' ar nd pd nt pt nr pr wx hb) (fun wx => sfC 8 a b c ad at' ar nd pd nt pt nr pr _ _ _ _ _ _ _ wx rfl rfl rfl rfl rfl rfl) (fun wx => kf_stream _ wx) (fun wx => dl_stream _ wx) (fun wx _ => own_stream 8 a b c true ad at' ar nd pd nt pt nr pr 15 2 wx hnd) _ _ rfl
set_option maxRecDepth 20000 in
theorem both_maxData (a b c : Int) (fin : Bool) (nd nt nr : Nat) (R : List (Int × Int)) (el : R.length = nr) (hnd : nd ≤ 9223372036854775807) (hnr : nr ≤ 9223372036854775807) : Both 16 a b c fin nd nt nr R (okI a b c nd (sfK (bitOf (a != 0) (b != 0) (c != 0) fin ((nd : Int) != 0) ((nt : Int) != 0) ((nr : Int) != 0)) 7) 1 0 0 (true)) := by
  constructor
  · intro ad at' ar pd pt pr w hr
    rw [← eq_maxData a b c fin nd nt nr R (hR_of R nr el)]
    exact specOK 16 a b c fin ad at' ar nd pd nt pt nr pr R true true false false false false 0 0 0 w (fun wx => uses_16 wx) hr el hnd hnr
  · intro ad at' ar pd pt pr w hr
    exact fokC 16 a b c fin ad at' ar nd pd nt pt nr pr (.iface 111 (.agg #[.int .i64 16, .int .i64 a, .int .i64 b, .int .i64 c, .bool fin, .slice ad nd pd, .slice at' nt pt, .slice ar nr pr, .int .i64 16, .int .i64 1])) _ 1 0 0 _ w (fun wx => vnC 16 a b c fin ad at' ar nd pd nt pt nr pr wx) (fun wx hq => body_maxData a b c fin ad at' ar nd pd nt pt nr pr wx) (fun wx => sfC 16 a b c ad at' ar nd pd nt pt nr pr _ _ _ _ _ _ _ wx rfl rfl rfl rfl rfl rfl) (fun wx => kf_maxData _ wx) (fun wx => dl_maxData _ wx) (fun wx _ => own_maxData _ wx) _ _ rfl
set_option maxRecDepth 20000 in
theorem both_maxStreamData (a b c : Int) (fin : Bool) (nd nt nr : Nat) (R : List (Int × Int)) (el : R.length = nr) (hnd : nd ≤ 9223372036854775807) (hnr : nr ≤ 9223372036854775807) : Both 17 a b c fin nd nt nr R (okI a b c nd (sfK (bitOf (a != 0) (b != 0) (c != 0) fin ((nd : Int) != 0) ((nt : Int) != 0) ((nr : Int) != 0)) 7) 3 0 0 (true)) := by
  constructor
  · intro ad at' ar pd pt pr w hr
    rw [← eq_maxStreamData a b c fin nd nt nr R (hR_of R nr el)]
    exact specOK 17 a b c fin ad at' ar nd pd nt pt nr pr R true true true false false false 0 0 0 w (fun wx => uses_17 wx) hr el hnd hnr
  · intro ad at' ar pd pt pr w hr
    exact fokC 17 a b c fin ad at' ar nd pd nt pt nr pr (.iface 112 (.agg #[.int .i64 17, .int .i64 a, .int .i64 b, .int .i64 c, .bool fin, .slice ad nd pd, .slice at' nt pt, .slice ar nr pr, .int .i64 17, .int .i64 2])) _ 3 0 0 _ w (fun wx => vnC 17 a b c fin ad at' ar nd pd nt pt nr pr wx) (fun wx hq => body_maxStreamData a b c fin ad at' ar nd pd nt pt nr pr wx) (fun wx => sfC 17 a b c ad at' ar nd pd nt pt nr pr _ _ _ _ _ _ _ wx rfl rfl rfl rfl rfl rfl) (fun wx => kf_maxStreamData _ wx) (fun wx => dl_maxStreamData _ wx) (fun wx _ => own_maxStreamData _ wx) _ _ rfl
set_option maxRecDepth 20000 in
theorem both_maxStreams (a b c : Int) (fin : Bool) (nd nt nr : Nat) (R : List (Int × Int)) (el : R.length = nr) (hnd : nd ≤ 9223372036854775807) (hnr : nr ≤ 9223372036854775807) : Both 18 a b c fin nd nt nr R (okI a b c nd (sfK (bitOf (a != 0) (b != 0) (c != 0) fin ((nd : Int) != 0) ((nt : Int) != 0) ((nr : Int) != 0)) 7) 3 0 0 (decide (a ≤ 1152921504606846976) && decide (b ≤ 1))) := by
  constructor
  · intro ad at' ar pd pt pr w hr
    rw [← eq_maxStreams a b c fin nd nt nr R (hR_of R nr el)]
    exact specOK 18 a b c fin ad at' ar nd pd nt pt nr pr R true true true false false false 0 0 0 w (fun wx => uses_18 wx) hr el hnd hnr
  · intro ad at' ar pd pt pr w hr
    exact fokC 18 a b c fin ad at' ar nd pd nt pt nr pr (.iface 114 (.agg #[.int .i64 18, .int .i64 a, .int .i64 b, .int .i64 c, .bool fin, .slice ad nd pd, .slice at' nt pt, .slice ar nr pr, .int .i64 (18 + b), .int .i64 1])) _ 3 0 0 _ w (fun wx => vnC 18 a b c fin ad at' ar nd pd nt pt nr pr wx) (fun wx hq => body_maxStreams a b c fin ad at' ar nd pd nt pt nr pr wx (nin_b hq).1 (nin_b hq).2) (fun wx => sfC 18 a b c ad at' ar nd pd nt pt nr pr _ _ _ _ _ _ _ wx rfl rfl rfl rfl rfl rfl) (fun wx => kf_maxStreams _ wx) (fun wx => dl_maxStreams _ wx) (fun wx _ => own_maxStreams 18 a b c fin ad at' ar nd pd nt pt nr pr (18 + b) 1 wx) _ _ rfl
set_option maxRecDepth 20000 in
theorem both_dataBlocked (a b c : Int) (fin : Bool) (nd nt nr : Nat) (R : List (Int × Int)) (el : R.length = nr) (hnd : nd ≤ 9223372036854775807) (hnr : nr ≤ 9223372036854775807) : Both 20 a b c fin nd nt nr R (okI a b c nd (sfK (bitOf (a != 0) (b != 0) (c != 0) fin ((nd : Int) != 0) ((nt : Int) != 0) ((nr : Int) != 0)) 7) 1 0 0 (true)) := by
  constructor
  · intro ad at' ar pd pt pr w hr
    rw [← eq_dataBlocked a b c fin nd nt nr R (hR_of R nr el)]
    exact specOK 20 a b c fin ad at' ar nd pd nt pt nr pr R true true false false false false 0 0 0 w (fun wx => uses_20 wx) hr el hnd hnr
  · intro ad at' ar pd pt pr w hr
    exact fokC 20 a b c fin ad at' ar nd pd nt pt nr pr (.iface 115 (.agg #[.int .i64 20, .int .i64 a, .int .i64 b, .int .i64 c, .bool fin, .slice ad nd pd, .slice at' nt pt, .slice ar nr pr, .int .i64 20, .int .i64 1])) _ 1 0 0 _ w (fun wx => vnC 20 a b c fin ad at' ar nd pd nt pt nr pr wx) (fun wx hq => body_dataBlocked a b c fin ad at' ar nd pd nt pt nr pr wx) (fun wx => sfC 20 a b c ad at' ar nd pd nt pt nr pr _ _ _ _ _ _ _ wx rfl rfl rfl rfl rfl rfl) (fun wx => kf_dataBlocked _ wx) (fun wx => dl_dataBlocked _ wx) (fun wx _ => own_dataBlocked _ wx) _ _ rfl
set_option maxRecDepth 20000 in
theorem both_streamBlocked (a b c : Int) (fin : Bool) (nd nt nr : Nat) (R : List (Int × Int)) (el : R.length = nr) (hnd : nd ≤ 9223372036854775807) (hnr : nr ≤ 9223372036854775807) : Both 21 a b c fin nd nt nr R (okI a b c nd (sfK (bitOf (a != 0) (b != 0) (c != 0) fin ((nd : Int) != 0) ((nt : Int) != 0) ((nr : Int) != 0)) 7) 3 0 0 (true)) := by
  constructor
  · intro ad at' ar pd pt pr w hr
    rw [← eq_streamBlocked a b c fin nd nt nr R (hR_of R nr el)]
    exact specOK 21 a b c fin ad at' ar nd pd nt pt nr pr R true true true false false false 0 0 0 w (fun wx => uses_21 wx) hr el hnd hnr
  · intro ad at' ar pd pt pr w hr
    exact fokC 21 a b c fin ad at' ar nd pd nt pt nr pr (.iface 116 (.agg #[.int .i64 21, .int .i64 a, .int .i64 b, .int .i64 c, .bool fin, .slice ad nd pd, .slice at' nt pt, .slice ar nr pr, .int .i64 21, .int .i64 2])) _ 3 0 0 _ w (fun wx => vnC 21 a b c fin ad at' ar nd pd nt pt nr pr wx) (fun wx hq => body_streamBlocked a b c fin ad at' ar nd pd nt pt nr pr wx) (fun wx => sfC 21 a b c ad at' ar nd pd nt pt nr pr _ _ _ _ _ _ _ wx rfl rfl rfl rfl rfl rfl) (fun wx => kf_streamBlocked _ wx) (fun wx => dl_streamBlocked _ wx) (fun wx _ => own_streamBlocked _ wx) _ _ rfl
set_option maxRecDepth 20000 in
theorem both_streamsBlocked (a b c : Int) (fin : Bool) (nd nt nr : Nat) (R : List (Int × Int)) (el : R.length = nr) (hnd : nd ≤ 9223372036854775807) (hnr : nr ≤ 9223372036854775807) : Both 22 a b c fin nd nt nr R (okI a b c nd (sfK (bitOf (a != 0) (b != 0) (c != 0) fin ((nd : Int) != 0) ((nt : Int) != 0) ((nr : Int) != 0)) 7) 3 0 0 (decide (a ≤ 1152921504606846976) && decide (b ≤ 1))) := by
  constructor
  · intro ad at' ar pd pt pr w hr
    rw [← eq_streamsBlocked a b c fin nd nt nr R (hR_of R nr el)]
    exact specOK 22 a b c fin ad at' ar nd pd nt pt nr pr R true true true false false false 0 0 0 w (fun wx => uses_22 wx) hr el hnd hnr
  · intro ad at' ar pd pt pr w hr
    exact fokC 22 a b c fin ad at' ar nd pd nt pt nr pr (.iface 117 (.agg #[.int .i64 22, .int .i64 a, .int .i64 b, .int .i64 c, .bool fin, .slice ad nd pd, .slice at' nt pt, .slice ar nr pr, .int .i64 (22 + b), .int .i64 1])) _ 3 0 0 _ w (fun wx => vnC 22 a b c fin ad at' ar nd pd nt pt nr pr wx) (fun wx hq => body_streamsBlocked a b c fin ad at' ar nd pd nt pt nr pr wx (nin_b hq).1 (nin_b hq).2) (fun wx => sfC 22 a b c ad at' ar nd pd nt pt nr pr _ _ _ _ _ _ _ wx rfl rfl rfl rfl rfl rfl) (fun wx => kf_streamsBlocked _ wx) (fun wx => dl_streamsBlocked _ wx) (fun wx _ => own_streamsBlocked 22 a b c fin ad at' ar nd pd nt pt nr pr (22 + b) 1 wx) _ _ rfl
set_option maxRecDepth 20000 in
theorem both_newId (a b c : Int) (fin : Bool) (nd nt nr : Nat) (R : List (Int × Int)) (el : R.length = nr) (hnd : nd ≤ 9223372036854775807) (hnr : nr ≤ 9223372036854775807) : Both 24 a b c fin nd nt nr R (okI a b c nd (sfK (bitOf (a != 0) (b != 0) (c != 0) fin ((nd : Int) != 0) ((nt : Int) != 0) ((nr : Int) != 0)) 7) 51 1 8 (decide (b ≤ a) && ((nt : Int) == 8))) := by
  constructor
  · intro ad at' ar pd pt pr w hr
    rw [← eq_newId a b c fin nd nt nr R (hR_of R nr el)]
    exact specOK 24 a b c fin ad at' ar nd pd nt pt nr pr R true true true false false false 1 8 8 w (fun wx => uses_24 wx) hr el hnd hnr
  · intro ad at' ar pd pt pr w hr
    exact fokC 24 a b c fin ad at' ar nd pd nt pt nr pr (.iface 118 (.agg #[.int .i64 24, .int .i64 a, .int .i64 b, .int .i64 c, .bool fin, .slice ad nd pd, .slice at' nt pt, .slice ar nr pr, .int .i64 24, .int .i64 2])) _ 51 1 8 _ w (fun wx => vnC 24 a b c fin ad at' ar nd pd nt pt nr pr wx) (fun wx hq => body_newId a b c fin ad at' ar nd pd nt pt nr pr wx) (fun wx => sfC 24 a b c ad at' ar nd pd nt pt nr pr _ _ _ _ _ _ _ wx rfl rfl rfl rfl rfl rfl) (fun wx => kf_newId _ wx) (fun wx => dl_newId _ wx) (fun wx _ => own_newId 24 a b c fin ad at' ar nd pd nt pt nr pr 24 2 wx) _ _ rfl
set_option maxRecDepth 20000 in
theorem both_retireId (a b c : Int) (fin : Bool) (nd nt nr : Nat) (R : List (Int × Int)) (el : R.length = nr) (hnd : nd ≤ 9223372036854775807) (hnr : nr ≤ 9223372036854775807) : Both 25 a b c fin nd nt nr R (okI a b c nd (sfK (bitOf (a != 0) (b != 0) (c != 0) fin ((nd : Int) != 0) ((nt : Int) != 0) ((nr : Int) != 0)) 7) 1 0 0 (true)) := by
  constructor
  · intro ad at' ar pd pt pr w hr
    rw [← eq_retireId a b c fin nd nt nr R (hR_of R nr el)]
    exact specOK 25 a b c fin ad at' ar nd pd nt pt nr pr R true true false false false false 0 0 0 w (fun wx => uses_25 wx) hr el hnd hnr
  · intro ad at' ar pd pt pr w hr
    exact fokC 25 a b c fin ad at' ar nd pd nt pt nr pr (.iface 119 (.agg #[.int .i64 25, .int .i64 a, .int .i64 b, .int .i64 c, .bool fin, .slice ad nd pd, .slice at' nt pt, .slice ar nr pr, .int .i64 25, .int .i64 1])) _ 1 0 0 _ w (fun wx => vnC 25 a b c fin ad at' ar nd pd nt pt nr pr wx) (fun wx hq => body_retireId a b c fin ad at' ar nd pd nt pt nr pr wx) (fun wx => sfC 25 a b c ad at' ar nd pd nt pt nr pr _ _ _ _ _ _ _ wx rfl rfl rfl rfl rfl rfl) (fun wx => kf_retireId _ wx) (fun wx => dl_retireId _ wx) (fun wx _ => own_retireId _ wx) _ _ rfl
set_option maxRecDepth 20000 in
theorem both_challenge (a b c : Int) (fin : Bool) (nd nt nr : Nat) (R : List (Int × Int)) (el : R.length = nr) (hnd : nd ≤ 9223372036854775807) (hnr : nr ≤ 9223372036854775807) : Both 26 a b c fin nd nt nr R (okI a b c nd (sfK (bitOf (a != 0) (b != 0) (c != 0) fin ((nd : Int) != 0) ((nt : Int) != 0) ((nr : Int) != 0)) 7) 16 8 8 (true)) := by
  constructor
  · intro ad at' ar pd pt pr w hr
    rw [← eq_challenge a b c fin nd nt nr R (hR_of R nr el)]
    exact specOK 26 a b c fin ad at' ar nd pd nt pt nr pr R true false false false false false 8 8 0 w (fun wx => uses_26 wx) hr el hnd hnr
  · intro ad at' ar pd pt pr w hr
    exact fokC 26 a b c fin ad at' ar nd pd nt pt nr pr (.iface 124 (.agg #[.int .i64 26, .int .i64 a, .int .i64 b, .int .i64 c, .bool fin, .slice ad nd pd, .slice at' nt pt, .slice ar nr pr, .int .i64 26, .int .i64 0])) _ 16 8 8 _ w (fun wx => vnC 26 a b c fin ad at' ar nd pd nt pt nr pr wx) (fun wx hq => body_challenge a b c fin ad at' ar nd pd nt pt nr pr wx) (fun wx => sfC 26 a b c ad at' ar nd pd nt pt nr pr _ _ _ _ _ _ _ wx rfl rfl rfl rfl rfl rfl) (fun wx => kf_challenge _ wx) (fun wx => dl_challenge _ wx) (fun wx _ => own_challenge _ wx) _ _ rfl
set_option maxRecDepth 20000 in
theorem both_response (a b c : Int) (fin : Bool) (nd nt nr : Nat) (R : List (Int × Int)) (el : R.length = nr) (hnd : nd ≤ 9223372036854775807) (hnr : nr ≤ 9223372036854775807) : Both 27 a b c fin nd nt nr R (okI a b c nd (sfK (bitOf (a != 0) (b != 0) (c != 0) fin ((nd : Int) != 0) ((nt : Int) != 0) ((nr : Int) != 0)) 7) 16 8 8 (true)) := by
  constructor
  · intro ad at' ar pd pt pr w hr
    rw [← eq_response a b c fin nd nt nr R (hR_of R nr el)]
    exact specOK 27 a b c fin ad at' ar nd pd nt pt nr pr R true false false false false false 8 8 0 w (fun wx => uses_27 wx) hr el hnd hnr
  · intro ad at' ar pd pt pr w hr
    exact fokC 27 a b c fin ad at' ar nd pd nt pt nr pr (.iface 125 (.agg #[.int .i64 27, .int .i64 a, .int .i64 b, .int .i64 c, .bool fin, .slice ad nd pd, .slice at' nt pt, .slice ar nr pr, .int .i64 27, .int .i64 0])) _ 16 8 8 _ w (fun wx => vnC 27 a b c fin ad at' ar nd pd nt pt nr pr wx) (fun wx hq => body_response a b c fin ad at' ar nd pd nt pt nr pr wx) (fun wx => sfC 27 a b c ad at' ar nd pd nt pt nr pr _ _ _ _ _ _ _ wx rfl rfl rfl rfl rfl rfl) (fun wx => kf_response _ wx) (fun wx => dl_response _ wx) (fun wx _ => own_response _ wx) _ _ rfl
set_option maxRecDepth 20000 in
theorem both_close (a b c : Int) (fin : Bool) (nd nt nr : Nat) (R : List (Int × Int)) (el : R.length = nr) (hnd : nd ≤ 9223372036854775807) (hnr : nr ≤ 9223372036854775807) : Both 28 a b c fin nd nt nr R (okI a b c nd (sfK (bitOf (a != 0) (b != 0) (c != 0) fin ((nd : Int) != 0) ((nt : Int) != 0) ((nr : Int) != 0)) 7) 19 0 200 (true)) := by
  constructor
  · intro ad at' ar pd pt pr w hr
    rw [← eq_close a b c fin nd nt nr R (hR_of R nr el)]
    exact specOK 28 a b c fin ad at' ar nd pd nt pt nr pr R true true true false false false 0 200 0 w (fun wx => uses_28 wx) hr el hnd hnr
  · intro ad at' ar pd pt pr w hr
    exact fokC 28 a b c fin ad at' ar nd pd nt pt nr pr (.iface 126 (.agg #[.int .i64 28, .int .i64 a, .int .i64 b, .int .i64 c, .bool fin, .slice ad nd pd, .slice at' nt pt, .slice ar nr pr, .int .i64 28, .int .i64 2])) _ 19 0 200 _ w (fun wx => vnC 28 a b c fin ad at' ar nd pd nt pt nr pr wx) (fun wx hq => body_close a b c fin ad at' ar nd pd nt pt nr pr wx) (fun wx => sfC 28 a b c ad at' ar nd pd nt pt nr pr _ _ _ _ _ _ _ wx rfl rfl rfl rfl rfl rfl) (fun wx => kf_close _ wx) (fun wx => dl_close _ wx) (fun wx _ => own_close _ wx) _ _ rfl
set_option maxRecDepth 20000 in
theorem both_appClose (a b c : Int) (fin : Bool) (nd nt nr : Nat) (R : List (Int × Int)) (el : R.length = nr) (hnd : nd ≤ 9223372036854775807) (hnr : nr ≤ 9223372036854775807) : Both 29 a b c fin nd nt nr R (okI a b c nd (sfK (bitOf (a != 0) (b != 0) (c != 0) fin ((nd : Int) != 0) ((nt : Int) != 0) ((nr : Int) != 0)) 7) 17 0 200 (true)) := by
  constructor
  · intro ad at' ar pd pt pr w hr
    rw [← eq_appClose a b c fin nd nt nr R (hR_of R nr el)]
    exact specOK 29 a b c fin ad at' ar nd pd nt pt nr pr R true true false false false false 0 200 0 w (fun wx => uses_29 wx) hr el hnd hnr
  · intro ad at' ar pd pt pr w hr
    exact fokC 29 a b c fin ad at' ar nd pd nt pt nr pr (.iface 127 (.agg #[.int .i64 29, .int .i64 a, .int .i64 b, .int .i64 c, .bool fin, .slice ad nd pd, .slice at' nt pt, .slice ar nr pr, .int .i64 29, .int .i64 1])) _ 17 0 200 _ w (fun wx => vnC 29 a b c fin ad at' ar nd pd nt pt nr pr wx) (fun wx hq => body_appClose a b c fin ad at' ar nd pd nt pt nr pr wx) (fun wx => sfC 29 a b c ad at' ar nd pd nt pt nr pr _ _ _ _ _ _ _ wx rfl rfl rfl rfl rfl rfl) (fun wx => kf_appClose _ wx) (fun wx => dl_appClose _ wx) (fun wx _ => own_appClose _ wx) _ _ rfl
set_option maxRecDepth 20000 in
theorem both_done (a b c : Int) (fin : Bool) (nd nt nr : Nat) (R : List (Int × Int)) (el : R.length = nr) (hnd : nd ≤ 9223372036854775807) (hnr : nr ≤ 9223372036854775807) : Both 30 a b c fin nd nt nr R (okI a b c nd (sfK (bitOf (a != 0) (b != 0) (c != 0) fin ((nd : Int) != 0) ((nt : Int) != 0) ((nr : Int) != 0)) 7) 0 0 0 (true)) := by
  constructor
  · intro ad at' ar pd pt pr w hr
    rw [← eq_done a b c fin nd nt nr R (hR_of R nr el)]
    exact specOK 30 a b c fin ad at' ar nd pd nt pt nr pr R true false false false false false 0 0 0 w (fun wx => uses_30 wx) hr el hnd hnr
  · intro ad at' ar pd pt pr w hr
    exact fokC 30 a b c fin ad at' ar nd pd nt pt nr pr (.iface 128 (.agg #[.int .i64 30, .int .i64 a, .int .i64 b, .int .i64 c, .bool fin, .slice ad nd pd, .slice at' nt pt, .slice ar nr pr, .int .i64 30, .int .i64 0])) _ 0 0 0 _ w (fun wx => vnC 30 a b c fin ad at' ar nd pd nt pt nr pr wx) (fun wx hq => body_done a b c fin ad at' ar nd pd nt pt nr pr wx) (fun wx => sfC 30 a b c ad at' ar nd pd nt pt nr pr _ _ _ _ _ _ _ wx rfl rfl rfl rfl rfl rfl) (fun wx => kf_done _ wx) (fun wx => dl_done _ wx) (fun wx _ => own_done _ wx) _ _ rfl
set_option maxRecDepth 20000 in
theorem both_datagram (a b c : Int) (fin : Bool) (nd nt nr : Nat) (R : List (Int × Int)) (el : R.length = nr) (hnd : nd ≤ 9223372036854775807) (hnr : nr ≤ 9223372036854775807) : Both 48 a b c fin nd nt nr R (okI a b c nd (sfK (bitOf (a != 0) (b != 0) (c != 0) fin ((nd : Int) != 0) ((nt : Int) != 0) ((nr : Int) != 0)) 7) 16 0 1500 (true)) := by
  constructor
  · intro ad at' ar pd pt pr w hr
    rw [← eq_datagram a b c fin nd nt nr R (hR_of R nr el)]
    exact specOK 48 a b c fin ad at' ar nd pd nt pt nr pr R true false false false false false 0 1500 0 w (fun wx => uses_48 wx) hr el hnd hnr
  · intro ad at' ar pd pt pr w hr
    exact fokC 48 a b c fin ad at' ar nd pd nt pt nr pr (.iface 129 (.agg #[.int .i64 48, .int .i64 a, .int .i64 b, .int .i64 c, .bool fin, .slice ad nd pd, .slice at' nt pt, .slice ar nr pr, .int .i64 49, .int .i64 0])) _ 16 0 1500 _ w (fun wx => vnC 48 a b c fin ad at' ar nd pd nt pt nr pr wx) (fun wx hq => body_datagram a b c fin ad at' ar nd pd nt pt nr pr wx) (fun wx => sfC 48 a b c ad at' ar nd pd nt pt nr pr _ _ _ _ _ _ _ wx rfl rfl rfl rfl rfl rfl) (fun wx => kf_datagram _ wx) (fun wx => dl_datagram _ wx) (fun wx _ => own_datagram _ wx) _ _ rfl
theorem both_none (k a b c : Int) (fin : Bool) (nd nt nr : Nat) (R : List (Int × Int)) (el : R.length = nr) (hnd : nd ≤ 9223372036854775807) (hnr : nr ≤ 9223372036854775807) (hk : k ∉ ([0, 1, 2, 4, 5, 6, 7, 8, 16, 17, 18, 20, 21, 22, 24, 25, 26, 27, 28, 29, 30, 48] : List Int)) : Both k a b c fin nd nt nr R false := by
  constructor
  · intro ad at' ar pd pt pr w hr
    have h := specOK k a b c fin ad at' ar nd pd nt pt nr pr R false false false false false false 0 0 0 w (fun wx => uses_none k wx hk) hr el hnd hnr
    have e : (ok1 a b c fin false false false false false && ok2 nd nt nr R false 0 0 0 && ok3 k a b nd) = false := by simp [ok1]
    rw [e] at h
    exact h
  · intro ad at' ar pd pt pr w hr
    exact fok_none k a b c fin ad at' ar nd pd nt pt nr pr w hk
theorem bothC (k a b c : Int) (fin : Bool) (nd nt nr : Nat) (R : List (Int × Int)) (el : R.length = nr) (hnd : nd ≤ 9223372036854775807) (hnr : nr ≤ 9223372036854775807) : ∃ s, Both k a b c fin nd nt nr R s := by
  by_cases h : k ∈ ([0, 1, 2, 4, 5, 6, 7, 8, 16, 17, 18, 20, 21, 22, 24, 25, 26, 27, 28, 29, 30, 48] : List Int)
  · simp only [List.mem_cons, List.not_mem_nil, or_false] at h
    rcases h with rfl | rfl | rfl | rfl | rfl | rfl | rfl | rfl | rfl | rfl | rfl | rfl | rfl | rfl | rfl | rfl | rfl | rfl | rfl | rfl | rfl | rfl
    · exact ⟨_, both_padding a b c fin nd nt nr R el hnd hnr⟩
    · exact ⟨_, both_ping a b c fin nd nt nr R el hnd hnr⟩
    · exact ⟨_, both_ack a b c fin nd nt nr R el hnd hnr⟩
    · exact ⟨_, both_reset a b c fin nd nt nr R el hnd hnr⟩
    · exact ⟨_, both_stop a b c fin nd nt nr R el hnd hnr⟩
    · exact ⟨_, both_crypto a b c fin nd nt nr R el hnd hnr⟩
    · exact ⟨_, both_newToken a b c fin nd nt nr R el hnd hnr⟩
    · exact ⟨_, both_stream a b c fin nd nt nr R el hnd hnr⟩
    · exact ⟨_, both_maxData a b c fin nd nt nr R el hnd hnr⟩
    · exact ⟨_, both_maxStreamData a b c fin nd nt nr R el hnd hnr⟩
    · exact ⟨_, both_maxStreams a b c fin nd nt nr R el hnd hnr⟩
    · exact ⟨_, both_dataBlocked a b c fin nd nt nr R el hnd hnr⟩
    · exact ⟨_, both_streamBlocked a b c fin nd nt nr R el hnd hnr⟩
    · exact ⟨_, both_streamsBlocked a b c fin nd nt nr R el hnd hnr⟩
    · exact ⟨_, both_newId a b c fin nd nt nr R el hnd hnr⟩
    · exact ⟨_, both_retireId a b c fin nd nt nr R el hnd hnr⟩
    · exact ⟨_, both_challenge a b c fin nd nt nr R el hnd hnr⟩
    · exact ⟨_, both_response a b c fin nd nt nr R el hnd hnr⟩
    · exact ⟨_, both_close a b c fin nd nt nr R el hnd hnr⟩
    · exact ⟨_, both_appClose a b c fin nd nt nr R el hnd hnr⟩
    · exact ⟨_, both_done a b c fin nd nt nr R el hnd hnr⟩
    · exact ⟨_, both_datagram a b c fin nd nt nr R el hnd hnr⟩
  · exact ⟨_, both_none k a b c fin nd nt nr R el hnd hnr h⟩
end Go.Proofs.Ytaodcahkkeobdaa
