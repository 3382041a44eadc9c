import Derived.Test.YtlbiaiohjohgiaaFitsA
namespace Go.Proofs.Ytlbiaiohjohgiaa
open Go.RowKit
set_option linter.unusedVariables false

set_option maxRecDepth 20000 in
set_option maxHeartbeats 1000000 in
theorem ifits_0 (form : Int) (w : World) : Calls Try.prog 18 #[.int .i64 0, .int .i64 form] w fun e w' => e = .returned (.bool (form == 1 || form == 2 || form == 4)) ∧ Below w.heap.size w w' := by
  have hm : ∀ (n : Nat) (w : World), (method (n + 1) 86 (.agg #[.int .i64 0, .int .i64 0, .int .i64 0, .int .i64 0, .bool false, .slice none 0 0, .slice none 0 0, .slice none 0 0]) "loop.example/g00012/impl.fits").run Try.prog w = .ok (78, .agg #[]) w := fun _ _ => by kernel_rfl
  have c1 := body_padding 0 0 0 false none none none 0 0 0 0 0 0 w
  go_enter Try.func18, Try.ntmps18
  go_wp2_with fail
  go_at_call 32
  refine c1.mono ?_
  rintro e w1 ⟨rfl, b1⟩
  go_wp2_with fail
  go_at_call 78
  refine (fitsEvery form _).mono ?_
  rintro e w2 ⟨rfl, b2⟩
  go_wp2
  go_ret
  exact ⟨rfl, b1.trans (b2.mono b1.size)⟩
set_option maxRecDepth 20000 in
set_option maxHeartbeats 1000000 in
theorem ifits_1 (form : Int) (w : World) : Calls Try.prog 18 #[.int .i64 1, .int .i64 form] w fun e w' => e = .returned (.bool (form == 1 || form == 2 || form == 4)) ∧ Below w.heap.size w w' := by
  have hm : ∀ (n : Nat) (w : World), (method (n + 1) 88 (.agg #[.int .i64 1, .int .i64 0, .int .i64 0, .int .i64 0, .bool false, .slice none 0 0, .slice none 0 0, .slice none 0 0, .int .i64 1, .int .i64 0]) "loop.example/g00012/impl.fits").run Try.prog w = .ok (78, .agg #[]) w := fun _ _ => by kernel_rfl
  have c1 := body_ping 0 0 0 false none none none 0 0 0 0 0 0 w
  go_enter Try.func18, Try.ntmps18
  go_wp2_with fail
  go_at_call 32
  refine c1.mono ?_
  rintro e w1 ⟨rfl, b1⟩
  go_wp2_with fail
  go_at_call 78
  refine (fitsEvery form _).mono ?_
  rintro e w2 ⟨rfl, b2⟩
  go_wp2
  go_ret
  exact ⟨rfl, b1.trans (b2.mono b1.size)⟩
set_option maxRecDepth 20000 in
set_option maxHeartbeats 1000000 in
theorem ifits_2 (form : Int) (w : World) : Calls Try.prog 18 #[.int .i64 2, .int .i64 form] w fun e w' => e = .returned (.bool (form == 1 || form == 2 || form == 4)) ∧ Below w.heap.size w w' := by
  have hm : ∀ (n : Nat) (w : World), (method (n + 1) 89 (.agg #[.int .i64 2, .int .i64 0, .int .i64 0, .int .i64 0, .bool false, .slice none 0 0, .slice none 0 0, .slice none 0 0]) "loop.example/g00012/impl.fits").run Try.prog w = .ok (78, .agg #[]) w := fun _ _ => by kernel_rfl
  have c1 := body_ack 0 0 0 false none none none 0 0 0 0 0 0 w
  go_enter Try.func18, Try.ntmps18
  go_wp2_with fail
  go_at_call 32
  refine c1.mono ?_
  rintro e w1 ⟨rfl, b1⟩
  go_wp2_with fail
  go_at_call 78
  refine (fitsEvery form _).mono ?_
  rintro e w2 ⟨rfl, b2⟩
  go_wp2
  go_ret
  exact ⟨rfl, b1.trans (b2.mono b1.size)⟩
set_option maxRecDepth 20000 in
set_option maxHeartbeats 1000000 in
theorem ifits_4 (form : Int) (w : World) : Calls Try.prog 18 #[.int .i64 4, .int .i64 form] w fun e w' => e = .returned (.bool (form == 4)) ∧ Below w.heap.size w w' := by
  have hm : ∀ (n : Nat) (w : World), (method (n + 1) 91 (.agg #[.int .i64 4, .int .i64 0, .int .i64 0, .int .i64 0, .bool false, .slice none 0 0, .slice none 0 0, .slice none 0 0, .int .i64 4, .int .i64 3]) "loop.example/g00012/impl.fits").run Try.prog w = .ok (64, .agg #[]) w := fun _ _ => by kernel_rfl
  have c1 := body_reset 0 0 0 false none none none 0 0 0 0 0 0 w
  go_enter Try.func18, Try.ntmps18
  go_wp2_with fail
  go_at_call 32
  refine c1.mono ?_
  rintro e w1 ⟨rfl, b1⟩
  go_wp2_with fail
  go_at_call 64
  refine (fitsShort form _).mono ?_
  rintro e w2 ⟨rfl, b2⟩
  go_wp2
  go_ret
  exact ⟨rfl, b1.trans (b2.mono b1.size)⟩
set_option maxRecDepth 20000 in
set_option maxHeartbeats 1000000 in
theorem ifits_5 (form : Int) (w : World) : Calls Try.prog 18 #[.int .i64 5, .int .i64 form] w fun e w' => e = .returned (.bool (form == 4)) ∧ Below w.heap.size w w' := by
  have hm : ∀ (n : Nat) (w : World), (method (n + 1) 92 (.agg #[.int .i64 5, .int .i64 0, .int .i64 0, .int .i64 0, .bool false, .slice none 0 0, .slice none 0 0, .slice none 0 0, .int .i64 5, .int .i64 2]) "loop.example/g00012/impl.fits").run Try.prog w = .ok (64, .agg #[]) w := fun _ _ => by kernel_rfl
  have c1 := body_stop 0 0 0 false none none none 0 0 0 0 0 0 w
  go_enter Try.func18, Try.ntmps18
  go_wp2_with fail
  go_at_call 32
  refine c1.mono ?_
  rintro e w1 ⟨rfl, b1⟩
  go_wp2_with fail
  go_at_call 64
  refine (fitsShort form _).mono ?_
  rintro e w2 ⟨rfl, b2⟩
  go_wp2
  go_ret
  exact ⟨rfl, b1.trans (b2.mono b1.size)⟩
set_option maxRecDepth 20000 in
set_option maxHeartbeats 1000000 in
theorem ifits_6 (form : Int) (w : World) : Calls Try.prog 18 #[.int .i64 6, .int .i64 form] w fun e w' => e = .returned (.bool (form == 1 || form == 2 || form == 4)) ∧ Below w.heap.size w w' := by
  have hm : ∀ (n : Nat) (w : World), (method (n + 1) 94 (.agg #[.int .i64 6, .int .i64 0, .int .i64 0, .int .i64 0, .bool false, .slice none 0 0, .slice none 0 0, .slice none 0 0, .int .i64 6, .int .i64 1]) "loop.example/g00012/impl.fits").run Try.prog w = .ok (78, .agg #[]) w := fun _ _ => by kernel_rfl
  have c1 := body_crypto 0 0 0 false none none none 0 0 0 0 0 0 w
  go_enter Try.func18, Try.ntmps18
  go_wp2_with fail
  go_at_call 32
  refine c1.mono ?_
  rintro e w1 ⟨rfl, b1⟩
  go_wp2_with fail
  go_at_call 78
  refine (fitsEvery form _).mono ?_
  rintro e w2 ⟨rfl, b2⟩
  go_wp2
  go_ret
  exact ⟨rfl, b1.trans (b2.mono b1.size)⟩
set_option maxRecDepth 20000 in
set_option maxHeartbeats 1000000 in
theorem ifits_7 (form : Int) (w : World) : Calls Try.prog 18 #[.int .i64 7, .int .i64 form] w fun e w' => e = .returned (.bool (form == 4)) ∧ Below w.heap.size w w' := by
  have hm : ∀ (n : Nat) (w : World), (method (n + 1) 96 (.agg #[.int .i64 7, .int .i64 0, .int .i64 0, .int .i64 0, .bool false, .slice none 0 0, .slice none 0 0, .slice none 0 0, .int .i64 7, .int .i64 0]) "loop.example/g00012/impl.fits").run Try.prog w = .ok (64, .agg #[]) w := fun _ _ => by kernel_rfl
  have c1 := body_newToken 0 0 0 false none none none 0 0 0 0 0 0 w
  go_enter Try.func18, Try.ntmps18
  go_wp2_with fail
  go_at_call 32
  refine c1.mono ?_
  rintro e w1 ⟨rfl, b1⟩
  go_wp2_with fail
  go_at_call 64
  refine (fitsShort form _).mono ?_
  rintro e w2 ⟨rfl, b2⟩
  go_wp2
  go_ret
  exact ⟨rfl, b1.trans (b2.mono b1.size)⟩
set_option maxRecDepth 20000 in
set_option maxHeartbeats 1000000 in
theorem ifits_8 (form : Int) (w : World) : Calls Try.prog 18 #[.int .i64 8, .int .i64 form] w fun e w' => e = .returned (.bool (form == 4)) ∧ Below w.heap.size w w' := by
  have hm : ∀ (n : Nat) (w : World), (method (n + 1) 97 (.agg #[.int .i64 8, .int .i64 0, .int .i64 0, .int .i64 0, .bool false, .slice none 0 0, .slice none 0 0, .slice none 0 0, .int .i64 10, .int .i64 1]) "loop.example/g00012/impl.fits").run Try.prog w = .ok (64, .agg #[]) w := fun _ _ => by kernel_rfl
  have c1 := body_stream00 0 0 0 false none none none 0 0 0 0 0 0 w
  go_enter Try.func18, Try.ntmps18
  go_wp2_with fail
  go_at_call 32
  refine c1.mono ?_
  rintro e w1 ⟨rfl, b1⟩
  go_wp2_with fail
  go_at_call 64
  refine (fitsShort form _).mono ?_
  rintro e w2 ⟨rfl, b2⟩
  go_wp2
  go_ret
  exact ⟨rfl, b1.trans (b2.mono b1.size)⟩
set_option maxRecDepth 20000 in
set_option maxHeartbeats 1000000 in
theorem ifits_16 (form : Int) (w : World) : Calls Try.prog 18 #[.int .i64 16, .int .i64 form] w fun e w' => e = .returned (.bool (form == 4)) ∧ Below w.heap.size w w' := by
  have hm : ∀ (n : Nat) (w : World), (method (n + 1) 99 (.agg #[.int .i64 16, .int .i64 0, .int .i64 0, .int .i64 0, .bool false, .slice none 0 0, .slice none 0 0, .slice none 0 0, .int .i64 16, .int .i64 1]) "loop.example/g00012/impl.fits").run Try.prog w = .ok (64, .agg #[]) w := fun _ _ => by kernel_rfl
  have c1 := body_maxData 0 0 0 false none none none 0 0 0 0 0 0 w
  go_enter Try.func18, Try.ntmps18
  go_wp2_with fail
  go_at_call 32
  refine c1.mono ?_
  rintro e w1 ⟨rfl, b1⟩
  go_wp2_with fail
  go_at_call 64
  refine (fitsShort form _).mono ?_
  rintro e w2 ⟨rfl, b2⟩
  go_wp2
  go_ret
  exact ⟨rfl, b1.trans (b2.mono b1.size)⟩
set_option maxRecDepth 20000 in
set_option maxHeartbeats 1000000 in
theorem ifits_17 (form : Int) (w : World) : Calls Try.prog 18 #[.int .i64 17, .int .i64 form] w fun e w' => e = .returned (.bool (form == 4)) ∧ Below w.heap.size w w' := by
  have hm : ∀ (n : Nat) (w : World), (method (n + 1) 100 (.agg #[.int .i64 17, .int .i64 0, .int .i64 0, .int .i64 0, .bool false, .slice none 0 0, .slice none 0 0, .slice none 0 0, .int .i64 17, .int .i64 2]) "loop.example/g00012/impl.fits").run Try.prog w = .ok (64, .agg #[]) w := fun _ _ => by kernel_rfl
  have c1 := body_maxStreamData 0 0 0 false none none none 0 0 0 0 0 0 w
  go_enter Try.func18, Try.ntmps18
  go_wp2_with fail
  go_at_call 32
  refine c1.mono ?_
  rintro e w1 ⟨rfl, b1⟩
  go_wp2_with fail
  go_at_call 64
  refine (fitsShort form _).mono ?_
  rintro e w2 ⟨rfl, b2⟩
  go_wp2
  go_ret
  exact ⟨rfl, b1.trans (b2.mono b1.size)⟩
set_option maxRecDepth 20000 in
set_option maxHeartbeats 1000000 in
theorem ifits_18 (form : Int) (w : World) : Calls Try.prog 18 #[.int .i64 18, .int .i64 form] w fun e w' => e = .returned (.bool (form == 4)) ∧ Below w.heap.size w w' := by
  have hm : ∀ (n : Nat) (w : World), (method (n + 1) 102 (.agg #[.int .i64 18, .int .i64 0, .int .i64 0, .int .i64 0, .bool false, .slice none 0 0, .slice none 0 0, .slice none 0 0, .int .i64 18, .int .i64 1]) "loop.example/g00012/impl.fits").run Try.prog w = .ok (64, .agg #[]) w := fun _ _ => by kernel_rfl
  have c1 := body_maxStreams 0 0 0 false none none none 0 0 0 0 0 0 w (by decide) (by decide)
  go_enter Try.func18, Try.ntmps18
  go_wp2_with fail
  go_at_call 32
  refine c1.mono ?_
  rintro e w1 ⟨rfl, b1⟩
  go_wp2_with fail
  go_at_call 64
  refine (fitsShort form _).mono ?_
  rintro e w2 ⟨rfl, b2⟩
  go_wp2
  go_ret
  exact ⟨rfl, b1.trans (b2.mono b1.size)⟩
set_option maxRecDepth 20000 in
set_option maxHeartbeats 1000000 in
theorem ifits_20 (form : Int) (w : World) : Calls Try.prog 18 #[.int .i64 20, .int .i64 form] w fun e w' => e = .returned (.bool (form == 4)) ∧ Below w.heap.size w w' := by
  have hm : ∀ (n : Nat) (w : World), (method (n + 1) 103 (.agg #[.int .i64 20, .int .i64 0, .int .i64 0, .int .i64 0, .bool false, .slice none 0 0, .slice none 0 0, .slice none 0 0, .int .i64 20, .int .i64 1]) "loop.example/g00012/impl.fits").run Try.prog w = .ok (64, .agg #[]) w := fun _ _ => by kernel_rfl
  have c1 := body_dataBlocked 0 0 0 false none none none 0 0 0 0 0 0 w
  go_enter Try.func18, Try.ntmps18
  go_wp2_with fail
  go_at_call 32
  refine c1.mono ?_
  rintro e w1 ⟨rfl, b1⟩
  go_wp2_with fail
  go_at_call 64
  refine (fitsShort form _).mono ?_
  rintro e w2 ⟨rfl, b2⟩
  go_wp2
  go_ret
  exact ⟨rfl, b1.trans (b2.mono b1.size)⟩
set_option maxRecDepth 20000 in
set_option maxHeartbeats 1000000 in
theorem ifits_21 (form : Int) (w : World) : Calls Try.prog 18 #[.int .i64 21, .int .i64 form] w fun e w' => e = .returned (.bool (form == 4)) ∧ Below w.heap.size w w' := by
  have hm : ∀ (n : Nat) (w : World), (method (n + 1) 104 (.agg #[.int .i64 21, .int .i64 0, .int .i64 0, .int .i64 0, .bool false, .slice none 0 0, .slice none 0 0, .slice none 0 0, .int .i64 21, .int .i64 2]) "loop.example/g00012/impl.fits").run Try.prog w = .ok (64, .agg #[]) w := fun _ _ => by kernel_rfl
  have c1 := body_streamBlocked 0 0 0 false none none none 0 0 0 0 0 0 w
  go_enter Try.func18, Try.ntmps18
  go_wp2_with fail
  go_at_call 32
  refine c1.mono ?_
  rintro e w1 ⟨rfl, b1⟩
  go_wp2_with fail
  go_at_call 64
  refine (fitsShort form _).mono ?_
  rintro e w2 ⟨rfl, b2⟩
  go_wp2
  go_ret
  exact ⟨rfl, b1.trans (b2.mono b1.size)⟩
set_option maxRecDepth 20000 in
set_option maxHeartbeats 1000000 in
theorem ifits_22 (form : Int) (w : World) : Calls Try.prog 18 #[.int .i64 22, .int .i64 form] w fun e w' => e = .returned (.bool (form == 4)) ∧ Below w.heap.size w w' := by
  have hm : ∀ (n : Nat) (w : World), (method (n + 1) 105 (.agg #[.int .i64 22, .int .i64 0, .int .i64 0, .int .i64 0, .bool false, .slice none 0 0, .slice none 0 0, .slice none 0 0, .int .i64 22, .int .i64 1]) "loop.example/g00012/impl.fits").run Try.prog w = .ok (64, .agg #[]) w := fun _ _ => by kernel_rfl
  have c1 := body_streamsBlocked 0 0 0 false none none none 0 0 0 0 0 0 w (by decide) (by decide)
  go_enter Try.func18, Try.ntmps18
  go_wp2_with fail
  go_at_call 32
  refine c1.mono ?_
  rintro e w1 ⟨rfl, b1⟩
  go_wp2_with fail
  go_at_call 64
  refine (fitsShort form _).mono ?_
  rintro e w2 ⟨rfl, b2⟩
  go_wp2
  go_ret
  exact ⟨rfl, b1.trans (b2.mono b1.size)⟩
set_option maxRecDepth 20000 in
set_option maxHeartbeats 1000000 in
theorem ifits_24 (form : Int) (w : World) : Calls Try.prog 18 #[.int .i64 24, .int .i64 form] w fun e w' => e = .returned (.bool (form == 4)) ∧ Below w.heap.size w w' := by
  have hm : ∀ (n : Nat) (w : World), (method (n + 1) 106 (.agg #[.int .i64 24, .int .i64 0, .int .i64 0, .int .i64 0, .bool false, .slice none 0 0, .slice none 0 0, .slice none 0 0, .int .i64 24, .int .i64 2]) "loop.example/g00012/impl.fits").run Try.prog w = .ok (64, .agg #[]) w := fun _ _ => by kernel_rfl
  have c1 := body_newId 0 0 0 false none none none 0 0 0 0 0 0 w
  go_enter Try.func18, Try.ntmps18
  go_wp2_with fail
  go_at_call 32
  refine c1.mono ?_
  rintro e w1 ⟨rfl, b1⟩
  go_wp2_with fail
  go_at_call 64
  refine (fitsShort form _).mono ?_
  rintro e w2 ⟨rfl, b2⟩
  go_wp2
  go_ret
  exact ⟨rfl, b1.trans (b2.mono b1.size)⟩
set_option maxRecDepth 20000 in
set_option maxHeartbeats 1000000 in
theorem ifits_25 (form : Int) (w : World) : Calls Try.prog 18 #[.int .i64 25, .int .i64 form] w fun e w' => e = .returned (.bool (form == 4)) ∧ Below w.heap.size w w' := by
  have hm : ∀ (n : Nat) (w : World), (method (n + 1) 107 (.agg #[.int .i64 25, .int .i64 0, .int .i64 0, .int .i64 0, .bool false, .slice none 0 0, .slice none 0 0, .slice none 0 0, .int .i64 25, .int .i64 1]) "loop.example/g00012/impl.fits").run Try.prog w = .ok (64, .agg #[]) w := fun _ _ => by kernel_rfl
  have c1 := body_retireId 0 0 0 false none none none 0 0 0 0 0 0 w
  go_enter Try.func18, Try.ntmps18
  go_wp2_with fail
  go_at_call 32
  refine c1.mono ?_
  rintro e w1 ⟨rfl, b1⟩
  go_wp2_with fail
  go_at_call 64
  refine (fitsShort form _).mono ?_
  rintro e w2 ⟨rfl, b2⟩
  go_wp2
  go_ret
  exact ⟨rfl, b1.trans (b2.mono b1.size)⟩
set_option maxRecDepth 20000 in
set_option maxHeartbeats 1000000 in
theorem ifits_26 (form : Int) (w : World) : Calls Try.prog 18 #[.int .i64 26, .int .i64 form] w fun e w' => e = .returned (.bool (form == 4)) ∧ Below w.heap.size w w' := by
  have hm : ∀ (n : Nat) (w : World), (method (n + 1) 112 (.agg #[.int .i64 26, .int .i64 0, .int .i64 0, .int .i64 0, .bool false, .slice none 0 0, .slice none 0 0, .slice none 0 0, .int .i64 26, .int .i64 0]) "loop.example/g00012/impl.fits").run Try.prog w = .ok (64, .agg #[]) w := fun _ _ => by kernel_rfl
  have c1 := body_challenge 0 0 0 false none none none 0 0 0 0 0 0 w
  go_enter Try.func18, Try.ntmps18
  go_wp2_with fail
  go_at_call 32
  refine c1.mono ?_
  rintro e w1 ⟨rfl, b1⟩
  go_wp2_with fail
  go_at_call 64
  refine (fitsShort form _).mono ?_
  rintro e w2 ⟨rfl, b2⟩
  go_wp2
  go_ret
  exact ⟨rfl, b1.trans (b2.mono b1.size)⟩
set_option maxRecDepth 20000 in
set_option maxHeartbeats 1000000 in
theorem ifits_27 (form : Int) (w : World) : Calls Try.prog 18 #[.int .i64 27, .int .i64 form] w fun e w' => e = .returned (.bool (form == 4)) ∧ Below w.heap.size w w' := by
  have hm : ∀ (n : Nat) (w : World), (method (n + 1) 113 (.agg #[.int .i64 27, .int .i64 0, .int .i64 0, .int .i64 0, .bool false, .slice none 0 0, .slice none 0 0, .slice none 0 0, .int .i64 27, .int .i64 0]) "loop.example/g00012/impl.fits").run Try.prog w = .ok (64, .agg #[]) w := fun _ _ => by kernel_rfl
  have c1 := body_response 0 0 0 false none none none 0 0 0 0 0 0 w
  go_enter Try.func18, Try.ntmps18
  go_wp2_with fail
  go_at_call 32
  refine c1.mono ?_
  rintro e w1 ⟨rfl, b1⟩
  go_wp2_with fail
  go_at_call 64
  refine (fitsShort form _).mono ?_
  rintro e w2 ⟨rfl, b2⟩
  go_wp2
  go_ret
  exact ⟨rfl, b1.trans (b2.mono b1.size)⟩
set_option maxRecDepth 20000 in
set_option maxHeartbeats 1000000 in
theorem ifits_28 (form : Int) (w : World) : Calls Try.prog 18 #[.int .i64 28, .int .i64 form] w fun e w' => e = .returned (.bool (form == 1 || form == 2 || form == 4)) ∧ Below w.heap.size w w' := by
  have hm : ∀ (n : Nat) (w : World), (method (n + 1) 114 (.agg #[.int .i64 28, .int .i64 0, .int .i64 0, .int .i64 0, .bool false, .slice none 0 0, .slice none 0 0, .slice none 0 0, .int .i64 28, .int .i64 2]) "loop.example/g00012/impl.fits").run Try.prog w = .ok (78, .agg #[]) w := fun _ _ => by kernel_rfl
  have c1 := body_close 0 0 0 false none none none 0 0 0 0 0 0 w
  go_enter Try.func18, Try.ntmps18
  go_wp2_with fail
  go_at_call 32
  refine c1.mono ?_
  rintro e w1 ⟨rfl, b1⟩
  go_wp2_with fail
  go_at_call 78
  refine (fitsEvery form _).mono ?_
  rintro e w2 ⟨rfl, b2⟩
  go_wp2
  go_ret
  exact ⟨rfl, b1.trans (b2.mono b1.size)⟩
set_option maxRecDepth 20000 in
set_option maxHeartbeats 1000000 in
theorem ifits_29 (form : Int) (w : World) : Calls Try.prog 18 #[.int .i64 29, .int .i64 form] w fun e w' => e = .returned (.bool (form == 4)) ∧ Below w.heap.size w w' := by
  have hm : ∀ (n : Nat) (w : World), (method (n + 1) 115 (.agg #[.int .i64 29, .int .i64 0, .int .i64 0, .int .i64 0, .bool false, .slice none 0 0, .slice none 0 0, .slice none 0 0, .int .i64 29, .int .i64 1]) "loop.example/g00012/impl.fits").run Try.prog w = .ok (64, .agg #[]) w := fun _ _ => by kernel_rfl
  have c1 := body_appClose 0 0 0 false none none none 0 0 0 0 0 0 w
  go_enter Try.func18, Try.ntmps18
  go_wp2_with fail
  go_at_call 32
  refine c1.mono ?_
  rintro e w1 ⟨rfl, b1⟩
  go_wp2_with fail
  go_at_call 64
  refine (fitsShort form _).mono ?_
  rintro e w2 ⟨rfl, b2⟩
  go_wp2
  go_ret
  exact ⟨rfl, b1.trans (b2.mono b1.size)⟩
set_option maxRecDepth 20000 in
set_option maxHeartbeats 1000000 in
theorem ifits_30 (form : Int) (w : World) : Calls Try.prog 18 #[.int .i64 30, .int .i64 form] w fun e w' => e = .returned (.bool (form == 4)) ∧ Below w.heap.size w w' := by
  have hm : ∀ (n : Nat) (w : World), (method (n + 1) 116 (.agg #[.int .i64 30, .int .i64 0, .int .i64 0, .int .i64 0, .bool false, .slice none 0 0, .slice none 0 0, .slice none 0 0, .int .i64 30, .int .i64 0]) "loop.example/g00012/impl.fits").run Try.prog w = .ok (64, .agg #[]) w := fun _ _ => by kernel_rfl
  have c1 := body_done 0 0 0 false none none none 0 0 0 0 0 0 w
  go_enter Try.func18, Try.ntmps18
  go_wp2_with fail
  go_at_call 32
  refine c1.mono ?_
  rintro e w1 ⟨rfl, b1⟩
  go_wp2_with fail
  go_at_call 64
  refine (fitsShort form _).mono ?_
  rintro e w2 ⟨rfl, b2⟩
  go_wp2
  go_ret
  exact ⟨rfl, b1.trans (b2.mono b1.size)⟩
set_option maxRecDepth 20000 in
set_option maxHeartbeats 1000000 in
theorem ifits_48 (form : Int) (w : World) : Calls Try.prog 18 #[.int .i64 48, .int .i64 form] w fun e w' => e = .returned (.bool (form == 4)) ∧ Below w.heap.size w w' := by
  have hm : ∀ (n : Nat) (w : World), (method (n + 1) 117 (.agg #[.int .i64 48, .int .i64 0, .int .i64 0, .int .i64 0, .bool false, .slice none 0 0, .slice none 0 0, .slice none 0 0, .int .i64 49, .int .i64 0]) "loop.example/g00012/impl.fits").run Try.prog w = .ok (64, .agg #[]) w := fun _ _ => by kernel_rfl
  have c1 := body_datagram 0 0 0 false none none none 0 0 0 0 0 0 w
  go_enter Try.func18, Try.ntmps18
  go_wp2_with fail
  go_at_call 32
  refine c1.mono ?_
  rintro e w1 ⟨rfl, b1⟩
  go_wp2_with fail
  go_at_call 64
  refine (fitsShort form _).mono ?_
  rintro e w2 ⟨rfl, b2⟩
  go_wp2
  go_ret
  exact ⟨rfl, b1.trans (b2.mono b1.size)⟩
end Go.Proofs.Ytlbiaiohjohgiaa
