import Derived.Test.YtoalillggafnpaaGreatDoorPjQ
import Derived.Test.YtoalillggafnpaaGreatDoorPjR
import Derived.Test.YtoalillggafnpaaGreatDoorPjN
import Derived.Test.YtoalillggafnpaaGreatDoorPjG
import Derived.Test.YtoalillggafnpaaGreatDoorSameInts
import Derived.Test.YtoalillggafnpaaGreatDoorAt
import Derived.Test.YtoalillggafnpaaGreatDoorAppRow
import Derived.Test.YtoalillggafnpaaGreatDoorPjP
import Derived.Deep.CutRange
import Derived.Test.YtoalillggafnpaaGreatDoorCards
import Derived.Test.YtoalillggafnpaaGreatDoorTie
import Derived.Test.YtoalillggafnpaaGreatDoorLift
import Derived.Lib.LaidTab
import Derived.LaidHandle
namespace Go.Proofs.YtoalillggafnpaaGreatDoor
open Go.RowKit
set_option linter.unusedVariables false

theorem conv_any {P : Program} {w : World} {e ts tstr : Nat} {v : Value} {xs : List Int} (hs : P.underlying ts = some (.slice e)) (he : P.underlying e = some (.int .u8)) (hd : P.underlying tstr = some .string)
    (h : Row w .u8 v xs) : (convert ts tstr v).run P w = .ok (.string (strOfNums xs)) w := by
  by_cases h0 : 0 < xs.length
  · obtain ⟨b, off, cap, rfl, hb, hc⟩ := h.at h0
    exact run_convert_bytes_arg w ts e hs he b off xs.length cap xs rfl hc tstr hd
  · obtain rfl : xs = [] := List.eq_nil_of_length_eq_zero (by omega)
    obtain ⟨ao, cap, rfl⟩ := h.form
    cases ao with
    | none => exact run_convert_bytes_nil w ts e hs he 0 cap tstr hd
    | some p => simp [convert, run_underlying hs, run_underlying he, run_underlying hd, Conv.bytesToString, loadCells, loadCellsFrom, strOfNums]; rfl
theorem sameR (va vb : Value) (xs : List Int) (w : World) (ha : Row w .u8 va xs) (hb : Row w .u8 vb xs) :
    Calls Tryz.prog 9 #[va, vb] w fun e w' => e = .returned (.bool true) ∧ w' = w := by
  have c1 := conv_any (P := Tryz.prog) Tryz.underlying22 Tryz.underlying5 Tryz.underlying9 ha
  have c2 := conv_any (P := Tryz.prog) Tryz.underlying22 Tryz.underlying5 Tryz.underlying9 hb
  clear ha hb
  generalize strOfNums xs = s at c1 c2
  have ht : (s.toList == s.toList) = true := by simp
  go_enter Tryz.func9, Tryz.ntmps9
  go_wp2
  go_ret
  exact ⟨rfl, rfl⟩
set_option maxHeartbeats 400000 in
theorem copiedR (v : Value) (xs : List Int) (w : World) (hr : Row w .u8 v xs) (hl : xs.length ≤ 1048576) :
    Calls Tryz.prog 8 #[v] w fun e w' => ∃ r, e = .returned r ∧ w'.ownsRow w.heap.size 5 1 r xs.length (xs.map (Value.int .u8)) ∧ Below w.heap.size w w' := by
  have ba : Below w.heap.size w (w.alloc (.cells #[] 5)) := (Below.refl _ _).alloc (Nat.le_refl _) _
  have HN : Hid _ := And.intro (hr.below ba) (And.intro ba hl)
  clear hr ba hl
  go_enter Tryz.func8, Tryz.ntmps8
  go_wp2_with (at_builtin; refine wpList_append_row rfl _ _ rfl w.heap.size (.slice (some ⟨w.heap.size, 0, none⟩) 0 0) 0 [] rfl (World.ownsRow_lit w #[] 0 (Nat.le_refl _) (by decide) rfl) v xs rfl HN.out.1 (by have := HN.out.2.2; omega) (by simp) ?_; intro v' w2 hown2 hgrow)
  have R : w2.ownsRow w.heap.size 5 1 v' xs.length (xs.map (Value.int .u8)) := by simpa using hown2
  have B : Below w.heap.size w w2 := HN.out.2.1.grown hgrow (by simp) (by intro k hk; simp [Value.ownBlock] at hk; omega)
  have HR : Hid _ := And.intro R B
  clear R B hown2 hgrow
  go_wp2
  go_ret
  exact ⟨_, rfl, HR.out.1, HR.out.2⟩
theorem sameN (va vb : Value) (xs ys : List Int) (w : World) (ha : Row w .u8 va xs) (hb : Row w .u8 vb ys) (bx : Bytes xs) (bY : Bytes ys) (hne : xs ≠ ys) :
    Calls Tryz.prog 9 #[va, vb] w fun e w' => e = .returned (.bool false) ∧ w' = w := by
  have c1 := conv_any (P := Tryz.prog) Tryz.underlying22 Tryz.underlying5 Tryz.underlying9 ha
  have c2 := conv_any (P := Tryz.prog) Tryz.underlying22 Tryz.underlying5 Tryz.underlying9 hb
  have hn := str_ne xs ys bx bY hne
  clear ha hb bx bY hne
  generalize strOfNums xs = s at c1 hn
  generalize strOfNums ys = t at c2 hn
  go_enter Tryz.func9, Tryz.ntmps9
  go_wp2
  go_ret
  exact ⟨rfl, rfl⟩
theorem retI_ok (v : Value) (h : H8) (ao : Option Addr) (po : Nat) (o : List Int) (w : World) (tb : TabL w) (hr : HRow w v h) (hb : h.bytes) (ro : Row w .u8 (.slice ao o.length po) o) (bo : Bytes o) (ok : rok h o) :
    Calls Tryz.prog 5 #[v, .slice ao o.length po] w fun e w' => ∃ r, e = .returned (.tuple #[r, .int .i64 0]) ∧ w'.ownsRow w.heap.size 5 1 r (retP h o).length ((retP h o).map (Value.int .u8)) ∧ Below w.heap.size w w' := by
  have bO := retO_bytes h hb ok.2.2.1 ok.2.2.2.1
  obtain ⟨xf, xv, xd, xs, xt, xn, xl, xp⟩ := h
  obtain ⟨v2, v3, v4, rfl, r2, r3, r4⟩ := hr
  obtain ⟨a2, p2, rfl⟩ := r2.form
  obtain ⟨a3, p3, rfl⟩ := r3.form
  obtain ⟨a4, p4, rfl⟩ := r4.form
  unfold rok at ok
  dsimp only at *
  obtain ⟨rfl, gv, gd, gs, g1, g2, rfl, rfl, rfl, go⟩ := ok
  exact retI_core xv a2 a3 a4 ao _ _ _ _ p2 p3 p4 po xd xs xt o w tb r2 r3 r4 ro rfl rfl rfl rfl gv gd gs g1 g2 go bo bO

/-- A retry packet's writer: P and c are what it gives. -/
def RpC (f : Nat) (h : H8) (o P : List Int) (c : Int) : Prop := ∀ (W : World) (u0 u1 : Value), TabL W → HRow W u0 h → Row W .u8 u1 o → Calls Tryz.prog f #[u0, u1] W fun e w' => ∃ r, e = .returned (.tuple #[r, .int .i64 c]) ∧ Row w' .u8 r P ∧ Below W.heap.size W w'
theorem rpC_both (h : H8) (o : List Int) (hb : h.bytes) (hs : h.small 66) (bo : Bytes o) (lo : o.length ≤ 9) :
    ∃ P c, RpC 5 h o P c ∧ RpC 6 h o P c ∧ ((c = 0 ∧ rok h o ∧ P = retP h o) ∨ c = 1) := by
  have sm9 : h.small 9223372036854775807 := h8small_mono hs (by decide)
  by_cases ok : rok h o
  · refine ⟨retP h o, 0, ?_, ?_, Or.inl ⟨rfl, ok, rfl⟩⟩
    · intro W u0 u1 tw r0 r1
      obtain ⟨ao, cp, rfl⟩ := r1.form
      refine (retI_ok u0 h ao cp o W tw r0 hb r1 bo ok).mono ?_
      rintro e w' ⟨r, rfl, ow, b⟩
      exact ⟨r, rfl, row_of_owns ow, b⟩
    · intro W u0 u1 tw r0 r1
      obtain ⟨ao, cp, rfl⟩ := r1.form
      refine (retS_ok u0 h ao cp o W r0 hb r1 bo ok).mono ?_
      rintro e w' ⟨r, rfl, ow, b⟩
      exact ⟨r, rfl, row_of_owns ow, b⟩
  · refine ⟨[], 1, ?_, ?_, Or.inr rfl⟩
    · intro W u0 u1 tw r0 r1
      obtain ⟨ao, cp, rfl⟩ := r1.form
      refine (retI_bad u0 h ao cp o W r0 sm9 r1 (by omega) ok).mono ?_
      rintro e w' ⟨r, rfl, ow, b⟩
      exact ⟨r, rfl, row_of_owns ow, b⟩
    · intro W u0 u1 tw r0 r1
      obtain ⟨ao, cp, rfl⟩ := r1.form
      refine (retS_bad u0 h ao cp o W r0 sm9 (by omega) ok).mono ?_
      rintro e w' ⟨r, rfl, ow, b⟩
      exact ⟨r, rfl, row_of_owns ow, b⟩
/-- A retry packet's reader. -/
def RoC (f : Nat) (xs o : List Int) (z : H8) (c : Int) : Prop := ∀ (W : World) (u0 u1 : Value), T3 W → Row W .u8 u0 xs → Row W .u8 u1 o → Calls Tryz.prog f #[u0, u1] W fun e w' => ∃ a2 a3 a4 p2 p3 p4, e = .returned (.tuple #[.agg #[.int .i64 z.f, .int .i64 z.v, .slice a2 z.d.length p2, .slice a3 z.s.length p3, .slice a4 z.t.length p4, .int .i64 z.n, .int .i64 z.l, .int .i64 z.p], .int .i64 c]) ∧ Row w' .u8 (.slice a2 z.d.length p2) z.d ∧ Row w' .u8 (.slice a3 z.s.length p3) z.s ∧ Row w' .u8 (.slice a4 z.t.length p4) z.t ∧ Below W.heap.size W w'
abbrev zH : H8 := ⟨0, 0, [], [], [], 0, 0, 0⟩
theorem roC_zero {W w' : World} {e : Ending} {c : Int} (h : e = .returned (.tuple #[.agg #[.int .i64 0, .int .i64 0, .slice none 0 0, .slice none 0 0, .slice none 0 0, .int .i64 0, .int .i64 0, .int .i64 0], .int .i64 c]) ∧ Below W.heap.size W w') :
    ∃ a2 a3 a4 p2 p3 p4, e = .returned (.tuple #[.agg #[.int .i64 zH.f, .int .i64 zH.v, .slice a2 zH.d.length p2, .slice a3 zH.s.length p3, .slice a4 zH.t.length p4, .int .i64 zH.n, .int .i64 zH.l, .int .i64 zH.p], .int .i64 c]) ∧ Row w' .u8 (.slice a2 zH.d.length p2) zH.d ∧ Row w' .u8 (.slice a3 zH.s.length p3) zH.s ∧ Row w' .u8 (.slice a4 zH.t.length p4) zH.t ∧ Below W.heap.size W w' :=
  ⟨none, none, none, 0, 0, 0, h.1, Or.inl ⟨rfl, _, _, rfl⟩, Or.inl ⟨rfl, _, _, rfl⟩, Or.inl ⟨rfl, _, _, rfl⟩, h.2⟩
theorem roC_own {W w' : World} {e : Ending} {c f v : Int} {d s t : List Int} (h : ∃ vd vs vt, e = .returned (.tuple #[.agg #[.int .i64 f, .int .i64 v, vd, vs, vt, .int .i64 0, .int .i64 0, .int .i64 0], .int .i64 c]) ∧ HOwn w' W.heap.size vd vs vt ⟨f, v, d, s, t, 0, 0, 0⟩ ∧ Below W.heap.size W w') :
    ∃ a2 a3 a4 p2 p3 p4, e = .returned (.tuple #[.agg #[.int .i64 f, .int .i64 v, .slice a2 d.length p2, .slice a3 s.length p3, .slice a4 t.length p4, .int .i64 0, .int .i64 0, .int .i64 0], .int .i64 c]) ∧ Row w' .u8 (.slice a2 d.length p2) d ∧ Row w' .u8 (.slice a3 s.length p3) s ∧ Row w' .u8 (.slice a4 t.length p4) t ∧ Below W.heap.size W w' := by
  obtain ⟨vd, vs, vt, rfl, k, b⟩ := h
  have r0 : Row w' .u8 vd d := row_of_owns k.o0
  have r1 : Row w' .u8 vs s := row_of_owns k.o1
  have r2 : Row w' .u8 vt t := row_of_owns k.o2
  obtain ⟨a2, p2, rfl⟩ := r0.form
  obtain ⟨a3, p3, rfl⟩ := r1.form
  obtain ⟨a4, p4, rfl⟩ := r2.form
  exact ⟨a2, a3, a4, p2, p3, p4, rfl, r0, r1, r2, b⟩
theorem w2P_T3 {w : World} (ht : T3 w) (ap : Option Addr) (m cp : Nat) : T3 ((w.alloc hd0).alloc (.cells #[.slice ap m cp] 22)) := ht.below (ro_w2 ap m cp w).1 ht.lt
theorem roC_both (h : H8) (o o' : List Int) (hb : h.bytes) (ok : rok h o) (bo' : Bytes o') (lo' : o'.length ≤ 100) :
    ∃ z c, RoC 7 (retP h o) o' z c ∧ RoC 10 (retP h o) o' z c ∧ (o' = o → z = ⟨3, h.v, h.d, h.s, h.t, 0, 0, 0⟩ ∧ c = 0) := by
  have hp := pk_retP h o ok
  have bO := retO_bytes h hb ok.2.2.1 ok.2.2.2.1
  have bP : Bytes (retP h o) := fun x hx => by
    rcases List.mem_append.1 hx with q | q
    · exact bO x q
    · exact digV_bytesR o (retO h) x q
  have hO := retO_length h
  have hl : (retP h o).length = (retO h).length + 8 := by unfold retP; rw [List.length_append, retV_length]
  have t1 := ok.2.2.1
  have t2 := ok.2.2.2.1
  have t3 := ok.2.2.2.2.2.1
  have ot := retP_take h o
  have od := retP_drop h o
  by_cases h8 : 8 < o'.length
  · refine ⟨zH, 1, ?_, ?_, fun e => absurd ok.2.2.2.2.2.2.2.2.2 (by subst e; omega)⟩
    · intro W u0 u1 tw q0 q1
      obtain ⟨ao, cap, rfl⟩ := q0.form
      obtain ⟨ap, cp, rfl⟩ := q1.form
      exact (roI_bad ao ap _ cap _ cp o' W (by omega) q1 rfl (by omega) h8).mono (fun e w' h => roC_zero h)
    · intro W u0 u1 tw q0 q1
      obtain ⟨ao, cap, rfl⟩ := q0.form
      obtain ⟨ap, cp, rfl⟩ := q1.form
      exact (roS_bad ao ap _ cap _ cp W (by omega) (by omega) h8).mono (fun e w' h => roC_zero h)
  have n8 : o'.length ≤ 8 := by omega
  have prep : ∀ (w : World) (u0 : Value), Row w .u8 u0 (retP h o) → ∃ b off cap, u0 = .slice (some ⟨b, off, none⟩) ((retO h).length + 8) cap ∧ Lies w b off ((retO h).length + 8) cap (retP h o) := by
    intro w u0 q0
    obtain ⟨ao, cap, rfl, hlie⟩ := row_lies q0
    rcases hlie with h | ⟨b, off, rfl, hl'⟩
    · omega
    · rw [hl] at hl' ⊢
      exact ⟨b, off, cap, rfl, hl'⟩
  have prepI : ∀ (w : World) (b off cap : Nat) (ap : Option Addr) (cp : Nat), T3 w → Lies w b off ((retO h).length + 8) cap (retP h o) → _ := fun w b off cap ap cp (tw : T3 w) (hl' : Lies w b off ((retO h).length + 8) cap (retP h o)) =>
    peek_ok (some ⟨b, off, none⟩) ((retO h).length + 8) cap 0 _ (retP h o) _ (w2P_T3 tw ap o'.length cp).tab (w2P_T3 tw ap o'.length cp).tabL (Or.inr ⟨b, off, rfl, hl'.below (ro_w2 ap o'.length cp w).1⟩) hl bP (by omega) hp
  by_cases heq : retV o' ((retP h o).take (retO h).length) = (retP h o).drop (retO h).length
  · refine ⟨⟨3, h.v, h.d, h.s, h.t, 0, 0, 0⟩, 0, ?_, ?_, fun _ => ⟨rfl, rfl⟩⟩
    · intro W u0 u1 tw q0 q1
      obtain ⟨b, off, cap, rfl, hl'⟩ := prep W u0 q0
      obtain ⟨ap, cp, rfl⟩ := q1.form
      exact (roU_ok b off _ cap ap _ cp _ (retP h o) o' W (by omega) n8 hl' bP q1 rfl bo' rfl (prepI W b off cap ap cp tw hl') heq).mono (fun e w' h => roC_own h)
    · intro W u0 u1 tw q0 q1
      obtain ⟨b, off, cap, rfl, hl'⟩ := prep W u0 q0
      obtain ⟨ap, cp, rfl⟩ := q1.form
      exact (roT_ok b off _ cap ap _ cp _ (retP h o) o' W (by omega) n8 hl' bP q1 rfl bo' hp rfl heq).mono (fun e w' h => roC_own h)
  · refine ⟨zH, 13, ?_, ?_, fun e => absurd (by subst e; rw [ot, od]) heq⟩
    · intro W u0 u1 tw q0 q1
      obtain ⟨b, off, cap, rfl, hl'⟩ := prep W u0 q0
      obtain ⟨ap, cp, rfl⟩ := q1.form
      exact (roU_bad b off _ cap ap _ cp _ (retP h o) o' W (by omega) n8 hl' bP q1 rfl bo' rfl (prepI W b off cap ap cp tw hl') heq).mono (fun e w' h => roC_zero h)
    · intro W u0 u1 tw q0 q1
      obtain ⟨b, off, cap, rfl, hl'⟩ := prep W u0 q0
      obtain ⟨ap, cp, rfl⟩ := q1.form
      exact (roT_bad b off _ cap ap _ cp _ (retP h o) o' W (by omega) n8 hl' bP q1 rfl bo' hp rfl heq).mono (fun e w' h => roC_zero h)
/-- A version packet's writer. -/
def VpC (f : Nat) (d s vs y : List Int) (c : Int) : Prop := ∀ (W : World) (u0 u1 u2 : Value), Row W .u8 u0 d → Row W .u8 u1 s → Row W .i64 u2 vs → Calls Tryz.prog f #[u0, u1, u2] W fun e w' => ∃ r, e = .returned (.tuple #[r, .int .i64 c]) ∧ Row w' .u8 r y ∧ Below W.heap.size W w'
theorem versV_bytes (vs : List Int) : Bytes (versV vs) := by
  intro x hx
  obtain ⟨l, hl, hx⟩ := List.mem_flatten.1 hx
  obtain ⟨v, _, rfl⟩ := List.mem_map.1 hl
  exact be_ok v 4 x hx
theorem vpC_both (d s vs : List Int) (bd : Bytes d) (bs : Bytes s) (ld : d.length ≤ 10) (ls : s.length ≤ 10) (lv : vs.length ≤ 9) :
    ∃ y c, VpC 12 d s vs y c ∧ VpC 13 d s vs y c ∧ ((c = 0 ∧ Bytes y ∧ y.length ≤ 1000 ∧ rvL y = vs ∧ rvC y = 0) ∨ c = 1) := by
  by_cases hb : 8 < d.length ∨ 8 < s.length ∨ vs.length < 1 ∨ 8 < vs.length
  · refine ⟨[], 1, ?_, ?_, Or.inr rfl⟩
    · intro W u0 u1 u2 r0 r1 r2
      obtain ⟨ao, cp, rfl⟩ := r0.form
      obtain ⟨ao1, cp1, rfl⟩ := r1.form
      obtain ⟨ao2, cp2, rfl⟩ := r2.form
      refine (ivers_bad ao ao1 ao2 _ _ _ cp cp1 cp2 d s W r0 r1 rfl rfl hb (by omega) (by omega) (by omega)).mono ?_
      rintro e w' ⟨r, rfl, ow, b⟩
      exact ⟨r, rfl, row_of_owns ow, b⟩
    · intro W u0 u1 u2 r0 r1 r2
      obtain ⟨ao, cp, rfl⟩ := r0.form
      obtain ⟨ao1, cp1, rfl⟩ := r1.form
      obtain ⟨ao2, cp2, rfl⟩ := r2.form
      refine (vers_bad ao ao1 ao2 _ _ _ cp cp1 cp2 W hb (by omega) (by omega) (by omega)).mono ?_
      rintro e w' ⟨r, rfl, ow, b⟩
      exact ⟨r, rfl, row_of_owns ow, b⟩
  · have hy : ∃ y c, VersOut d s vs y c ∧ ((c = 0 ∧ Bytes y ∧ y.length ≤ 1000 ∧ rvL y = vs ∧ rvC y = 0) ∨ c = 1) := by
      by_cases hg : ∀ j, j < vs.length → vok (vs.getD j 0)
      · have hp := pk_versP d s vs ((128 :: idsV 0 d s) ++ versV vs) rfl (by omega) (by omega) (by omega) (by omega) hg
        refine ⟨(128 :: idsV 0 d s) ++ versV vs, 0, ⟨fun _ => ⟨rfl, rfl⟩, fun ⟨j, hj, hn⟩ => absurd (hg j hj) hn⟩, Or.inl ⟨rfl, ?_, ?_, ?_, ?_⟩⟩
        · exact bytes_app (bytes_cons (by decide) (by decide) (idsV_bytes 0 d s bd bs (by omega) (by omega))) (versV_bytes vs)
        · rw [List.length_append, List.length_cons, idsV_length, versV_length]; omega
        · unfold rvL; rw [hp]; rfl
        · unfold rvC; rw [hp]; rfl
      · exact ⟨[], 1, ⟨fun h => absurd h hg, fun _ => ⟨rfl, rfl⟩⟩, Or.inr rfl⟩
    obtain ⟨y, c, hy, hc⟩ := hy
    refine ⟨y, c, ?_, ?_, hc⟩
    · intro W u0 u1 u2 r0 r1 r2
      obtain ⟨ao, cp, rfl⟩ := r0.form
      obtain ⟨ao1, cp1, rfl⟩ := r1.form
      obtain ⟨b, off, cp2, rfl, hlt, hcc⟩ := r2.at (by omega)
      refine (ivers_ok ao ao1 b off _ _ _ cp cp1 cp2 d s vs y c W r0 r1 rfl rfl rfl (by omega) (by omega) (by omega) (by omega) hlt hcc hy).mono ?_
      rintro e w' ⟨r, rfl, ow, b⟩
      exact ⟨r, rfl, row_of_owns ow, b⟩
    · intro W u0 u1 u2 r0 r1 r2
      obtain ⟨ao, cp, rfl⟩ := r0.form
      obtain ⟨ao1, cp1, rfl⟩ := r1.form
      obtain ⟨b, off, cp2, rfl, hlt, hcc⟩ := r2.at (by omega)
      refine (vers_ok ao ao1 b off _ _ _ cp cp1 cp2 d s vs y c W r0 r1 rfl rfl rfl (by omega) (by omega) (by omega) (by omega) hlt hcc hy).mono ?_
      rintro e w' ⟨r, rfl, ow, b⟩
      exact ⟨r, rfl, row_of_owns ow, b⟩
/-- The token's maker. -/
def TkC (f : Nat) (ks cs t : List Int) : Prop := ∀ (W : World) (u0 u1 : Value), Row W .u8 u0 ks → Row W .u8 u1 cs → Calls Tryz.prog f #[u0, u1] W fun e w' => ∃ r, e = .returned r ∧ Row w' .u8 r t ∧ Below W.heap.size W w'
theorem tkC_both (ks cs : List Int) (bk : Bytes ks) (bc : Bytes cs) (lk : ks.length ≤ 20) (lc : cs.length ≤ 10) :
    ∃ t, TkC 17 ks cs t ∧ TkC 18 ks cs t ∧ Bytes t ∧ (t = [] ∨ t.length = 8) := by
  have fin : ∀ (t : List Int) (W : World) (e : Ending) (w' : World), (∃ r, e = .returned r ∧ w'.ownsRow W.heap.size 5 1 r t.length (t.map (Value.int .u8)) ∧ Below W.heap.size W w') → ∃ r, e = .returned r ∧ Row w' .u8 r t ∧ Below W.heap.size W w' := by
    rintro t W e w' ⟨r, rfl, ow, b⟩
    exact ⟨r, rfl, row_of_owns ow, b⟩
  by_cases h16 : ks.length = 16
  · by_cases h8 : cs.length ≤ 8
    · refine ⟨tokV ks cs, ?_, ?_, fun x hx => digV_bytes _ _ x (List.mem_of_mem_take hx), Or.inr (tokV_length ks cs)⟩
      · intro W u0 u1 r0 r1
        obtain ⟨ao, cp, rfl⟩ := r0.form
        obtain ⟨ao1, cp1, rfl⟩ := r1.form
        rw [h16] at r0 ⊢
        exact (ireset_ok ao ao1 _ cp cp1 ks cs W r0 r1 h16 rfl h8 bk bc).mono (fin _ W)
      · intro W u0 u1 r0 r1
        obtain ⟨ao, cp, rfl⟩ := r0.form
        obtain ⟨ao1, cp1, rfl⟩ := r1.form
        rw [h16] at r0 ⊢
        exact (rtok_ok ao ao1 _ cp cp1 ks cs W r0 r1 h16 rfl h8 bk bc).mono (fin _ W)
    · refine ⟨[], ?_, ?_, (fun x hx => by cases hx), Or.inl rfl⟩
      · intro W u0 u1 r0 r1
        obtain ⟨ao, cp, rfl⟩ := r0.form
        obtain ⟨ao1, cp1, rfl⟩ := r1.form
        rw [h16] at r0 ⊢
        exact (ireset_badcid ao ao1 _ cp cp1 cs W r1 rfl (by omega) (by omega)).mono (fin [] W)
      · intro W u0 u1 r0 r1
        obtain ⟨ao, cp, rfl⟩ := r0.form
        obtain ⟨ao1, cp1, rfl⟩ := r1.form
        exact (rtok_bad ao ao1 _ _ cp cp1 W (Or.inr (by omega)) (by omega) (by omega)).mono (fin [] W)
  · refine ⟨[], ?_, ?_, (fun x hx => by cases hx), Or.inl rfl⟩
    · intro W u0 u1 r0 r1
      obtain ⟨ao, cp, rfl⟩ := r0.form
      exact (ireset_badkey ao _ cp u1 W h16 (by omega)).mono (fin [] W)
    · intro W u0 u1 r0 r1
      obtain ⟨ao, cp, rfl⟩ := r0.form
      obtain ⟨ao1, cp1, rfl⟩ := r1.form
      exact (rtok_bad ao ao1 _ _ cp cp1 W (Or.inl h16) (by omega) (by omega)).mono (fin [] W)
/-- The reset packet over zeros, and whether a token is among some. -/
theorem rpZ_bytes (t : List Int) (m : Nat) (bt : Bytes t) : Bytes (rpV t (List.replicate m 0)) := by
  intro x hx
  rcases List.mem_append.1 hx with h | h
  · rcases List.mem_or_eq_of_mem_set h with h | h
    · rw [(List.mem_replicate.1 h).2]; decide
    · rw [h]
      have : (List.replicate m (0 : Int)).getD 0 0 = 0 := by
        cases m with
        | zero => rfl
        | succ k => simp [List.replicate_succ]
      rw [this]; decide
  · exact bt x h
theorem zeros_bytes (m : Nat) : Bytes (List.replicate m (0 : Int)) := by
  intro x hx
  rw [(List.mem_replicate.1 hx).2]; decide
theorem isC (u0 u1 : Value) (t : List Int) (m : Nat) (L : List (List Int)) (r : Int) (W : World) (q0 : Row W .u8 u0 (rpV t (List.replicate m 0))) (q1 : SRow W u1 L) (h13 : 13 ≤ m) (h100 : m ≤ 100) (h8 : t.length = 8) (bt : Bytes t) (lL : L.length ≤ 3) (bL : ∀ j, Bytes (L.getD j [])) (sL : ∀ j, (L.getD j []).length ≤ 100) (ho : IdxOut L t r) :
    Calls Tryz.prog 21 #[u0, u1] W fun e w' => e = .returned (.int .i64 r) ∧ Below W.heap.size W w' := by
  have hl : (rpV t (List.replicate m 0)).length = m + 8 := by rw [rpV_length, List.length_replicate, h8]
  have hd := rpV_drop t (List.replicate m 0) m (by simp)
  have hf := rpV_first t (List.replicate m 0) (by simp; omega)
  have hz : (List.replicate m (0 : Int)).getD 0 0 = 0 := by
    cases m with
    | zero => rfl
    | succ k => simp [List.replicate_succ]
  rw [hz] at hf
  obtain ⟨b, off, cp, rfl, _⟩ := q0.at (by omega)
  obtain ⟨ao, ca, rfl⟩ := q1.form
  rw [hl] at q0 ⊢
  exact isrI_core b off m cp _ ao _ ca L r W q0 hl h13 (by omega) (rpZ_bytes t m bt) 64 (by rw [hf]; rfl) (by decide) (by decide) q1 rfl (by omega) bL (fun j => by have := sL j; omega) (by rw [hd]; exact ho)
theorem rpC (u0 u1 : Value) (t : List Int) (m : Nat) (W : World) (q0 : Row W .u8 u0 t) (q1 : Row W .u8 u1 (List.replicate m 0)) (h13 : 13 ≤ m) (h100 : m ≤ 100) (h8 : t.length = 8) :
    Calls Tryz.prog 19 #[u0, u1] W fun e w' => ∃ r, e = .returned (.tuple #[r, .int .i64 0]) ∧ Row w' .u8 r (rpV t (List.replicate m 0)) ∧ Below W.heap.size W w' := by
  obtain ⟨ao, cp, rfl⟩ := q0.form
  obtain ⟨ao1, cp1, rfl⟩ := q1.form
  rw [h8] at q0 ⊢
  refine (irp_ok ao ao1 _ cp cp1 t _ W q0 q1 h8 rfl (by simpa using h13) (by simpa using h100) (zeros_bytes m)).mono ?_
  rintro e w' ⟨r, rfl, ow, b⟩
  exact ⟨r, rfl, row_of_owns ow, b⟩
end Go.Proofs.YtoalillggafnpaaGreatDoor

namespace Go.Proofs.YtoalillggafnpaaGreatDoor
open Go.RowKit
set_option linter.unusedVariables false

theorem belowP_drewN (W : World) (m : Nat) : Below W.heap.size W (W.drewN m) := ⟨rfl, rfl, rfl, Nat.le_refl _, fun _ _ => rfl⟩
theorem belowP_trans {a b c : World} (h : Below a.heap.size a b) (k : Below b.heap.size b c) : Below a.heap.size a c := h.trans (k.mono h.size)
theorem infoP1 : (Tryz.prog.info? 5).map (fun i => (i.zero, i.size, i.bytes)) = some (some (.int .u8 0), 1, 1) := by kernel_rfl
theorem T3.to {w w' : World} (h : T3 w) (hb : Below w.heap.size w w') : T3 w' := h.below hb h.lt
set_option maxRecDepth 20000 in
theorem plain_long (ao a1 : Option Addr) (n m cap c1 : Nat) (w : World) (hn : n ≤ 9223372036854775807) (hm : m ≤ 9223372036854775807) (h : 1048576 < n ∨ 1048576 < m) :
    Calls Tryz.prog 3 #[.slice ao n cap, .slice a1 m c1] w fun e w' => e = .returned (.bool true) ∧ Below w.heap.size w w' := by
  by_cases h0 : 1048576 < n
  · go_enter Tryz.func3, Tryz.ntmps3
    go_wp2
    go_ret
    exact ⟨rfl, Below.refl _ _⟩
  · have h1 : 1048576 < m := by omega
    go_enter Tryz.func3, Tryz.ntmps3
    go_wp2
    go_ret
    exact ⟨rfl, Below.refl _ _⟩

set_option maxRecDepth 20000 in
set_option maxHeartbeats 8000000 in
theorem plain_core (ao b1 : Option Addr) (n m cap cp1 : Nat) (xs ys : List Int) (w : World) (hn : n ≤ 1048576) (hm : m ≤ 1048576) (en : xs.length = n) (em : ys.length = m) (bx : Bytes xs) (bY : Bytes ys) (r0 : Row w .u8 (.slice ao n cap) xs) (r1 : Row w .u8 (.slice b1 m cp1) ys) (ht : T3 w) :
    Calls Tryz.prog 3 #[.slice ao n cap, .slice b1 m cp1] w fun e w' => e = .returned (.bool true) ∧ Below w.heap.size w w' := by
  have HA : Hid _ := And.intro r0 (And.intro r1 (And.intro ht (And.intro bx (And.intro bY (And.intro en em)))))
  clear r0 r1 ht bx bY en em
  go_enter Tryz.func3, Tryz.ntmps3
  go_wp2_with fail
  go_at_call 4
  refine (drawRetryC _ xs w HA.out.1 HA.out.2.2.2.1 (by have := HA.out.2.2.2.2.2.1; omega)).mono ?_
  rintro e w1 ⟨vh, vo, h8, oo, rfl, HR, hb, hs, Ro, bo, lo, B1⟩
  obtain ⟨u2, u3, u4, rfl, q2, q3, q4⟩ := HR
  obtain ⟨c2, p2, rfl⟩ := q2.form
  obtain ⟨c3, p3, rfl⟩ := q3.form
  obtain ⟨c4, p4, rfl⟩ := q4.form
  obtain ⟨co, po, rfl⟩ := Ro.form
  obtain ⟨P, c, CI, CS, hc⟩ := rpC_both h8 oo hb hs bo lo
  obtain ⟨a0, a1, d, s, t, a5, a6, a7⟩ := h8
  have A1 : Below w1.heap.size w1 (w1.alloc (.cells #[.int .i64 a0, .int .i64 a1, .slice c2 d.length p2, .slice c3 s.length p3, .slice c4 t.length p4, .int .i64 a5, .int .i64 a6, .int .i64 a7] 24)) := (Below.refl _ _).alloc (Nat.le_refl _) _
  have H1 : Hid _ := And.intro (belowP_trans B1 A1) (And.intro (show HRow (w1.alloc (.cells #[.int .i64 a0, .int .i64 a1, .slice c2 d.length p2, .slice c3 s.length p3, .slice c4 t.length p4, .int .i64 a5, .int .i64 a6, .int .i64 a7] 24)) (.agg #[.int .i64 a0, .int .i64 a1, .slice c2 d.length p2, .slice c3 s.length p3, .slice c4 t.length p4, .int .i64 a5, .int .i64 a6, .int .i64 a7]) ⟨a0, a1, d, s, t, a5, a6, a7⟩ from ⟨_, _, _, rfl, q2.below A1, q3.below A1, q4.below A1⟩) (And.intro (Ro.below A1) (heap_alloc_new w1 (.cells #[.int .i64 a0, .int .i64 a1, .slice c2 d.length p2, .slice c3 s.length p3, .slice c4 t.length p4, .int .i64 a5, .int .i64 a6, .int .i64 a7] 24))))
  have HC : Hid _ := And.intro CI (And.intro CS (And.intro hc (And.intro hb (And.intro bo lo))))
  have hcc : (c != c) = false := by simp
  clear B1 q2 q3 q4 Ro CI CS hc hb hs bo lo A1
  go_wp2_with fail
  obtain ⟨x5, e5⟩ : ∃ x5, x5 = w1.heap.size := ⟨_, rfl⟩
  generalize w1.alloc (.cells #[.int .i64 a0, .int .i64 a1, .slice c2 d.length p2, .slice c3 s.length p3, .slice c4 t.length p4, .int .i64 a5, .int .i64 a6, .int .i64 a7] 24) = W1 at H1 ⊢
  rw [← e5] at H1 ⊢
  clear e5

  obtain ⟨y0, y1, y2, y3, y4, y5, y6, y7⟩ := hc8 H1.out.2.2.2
  go_wp2_with fail
  go_at_call 5
  refine (HC.out.1 W1 _ _ (HA.out.2.2.1.to H1.out.1).tabL H1.out.2.1 H1.out.2.2.1).mono ?_
  rintro e w2 ⟨rP, rfl, RP, B2⟩
  have H2 : Hid _ := And.intro (belowP_trans H1.out.1 B2) (And.intro (H1.out.2.1.below B2) (And.intro (H1.out.2.2.1.below B2) (And.intro ((B2.block x5 (Array.getElem?_eq_some_iff.1 H1.out.2.2.2).1).trans H1.out.2.2.2) RP)))
  clear RP B2 y0 y1 y2 y3 y4 y5 y6 y7
  obtain ⟨y0, y1, y2, y3, y4, y5, y6, y7⟩ := hc8 H2.out.2.2.2.1
  go_wp2_with fail
  go_at_call 6
  refine (HC.out.2.1 w2 _ _ (HA.out.2.2.1.to H2.out.1).tabL H2.out.2.1 H2.out.2.2.1).mono ?_
  rintro e w3 ⟨rQ, rfl, RQ, B3⟩
  have H3 : Hid _ := And.intro (belowP_trans H2.out.1 B3) (And.intro (H2.out.2.1.below B3) (And.intro (H2.out.2.2.1.below B3) (And.intro ((B3.block x5 (Array.getElem?_eq_some_iff.1 H2.out.2.2.2.1).1).trans H2.out.2.2.2.1) (H2.out.2.2.2.2.below B3))))
  clear RQ B3 y0 y1 y2 y3 y4 y5 y6 y7
  go_upto_if 61 with fail
  go_cut [11, 12, 13, 14, 15, 16, 17] from 61 to 125 (fun s11 s12 s13 s14 s15 s16 s17 wx => Below w3.heap.size w3 wx)

  case first =>
    rcases HC.out.2.2.1 with ⟨ec, ok, eP⟩ | ec
    · have hcz : (c == 0) = true := by rw [ec]; rfl
      obtain ⟨z, cz, ZI, ZS, hz⟩ := roC_both ⟨a0, a1, d, s, t, a5, a6, a7⟩ oo oo HC.out.2.2.2.1 ok HC.out.2.2.2.2.1 (by have := HC.out.2.2.2.2.2; omega)
      obtain ⟨ez, ecz⟩ := hz rfl
      subst ez ecz
      obtain ⟨z', cz', ZI', ZS', _⟩ := roC_both ⟨a0, a1, d, s, t, a5, a6, a7⟩ oo (oo ++ [1]) HC.out.2.2.2.1 ok (bytes_app HC.out.2.2.2.2.1 (bytes_cons (by decide) (by decide) (by intro x hx; cases hx))) (by have := HC.out.2.2.2.2.2; simp; omega)
      have lP : P.length ≤ 200 := by
        rw [eP]
        unfold retP
        rw [List.length_append, retO_length, retV_length]
        have h1 := ok.2.2.1
        have h2 := ok.2.2.2.1
        have h3 := ok.2.2.2.2.2.1
        omega
      rw [← eP] at ZI ZI' ZS'
      have HZ : Hid _ := And.intro ZI (And.intro ZI' (And.intro ZS' lP))
      have va : (a1 != a1) = false := by simp
      have vb : (cz' != cz') = false := by simp
      clear ZI ZS ZI' ZS' hz lP ok eP ec
      go_wp2_with fail
      go_at_call 8
      refine (copiedR rP P w3 H3.out.2.2.2.2 (by have := HZ.out.2.2.2; omega)).mono ?_
      rintro e w4 ⟨r4, rfl, O4, B4⟩
      have H4 : Hid _ := And.intro B4 (And.intro (row_of_owns O4) (And.intro (H3.out.2.2.1.below B4) ((B4.block x5 (Array.getElem?_eq_some_iff.1 H3.out.2.2.2.1).1).trans H3.out.2.2.2.1)))
      clear O4 B4
      go_wp2_with fail
      go_at_call 7
      refine (HZ.out.1 w4 _ _ (HA.out.2.2.1.to (belowP_trans H3.out.1 H4.out.1)) H4.out.2.1 H4.out.2.2.1).mono ?_
      rintro e w5 ⟨g2, g3, g4, k2, k3, k4, rfl, R2, R3, R4, B5⟩
      have A5 : Below w5.heap.size w5 (w5.alloc (.cells #[.int .i64 3, .int .i64 a1, .slice g2 d.length k2, .slice g3 s.length k3, .slice g4 t.length k4, .int .i64 0, .int .i64 0, .int .i64 0] 24)) := (Below.refl _ _).alloc (Nat.le_refl _) _
      have H5 : Hid _ := And.intro (belowP_trans (belowP_trans H4.out.1 B5) A5) (And.intro (R2.below A5) (And.intro (R3.below A5) (And.intro (R4.below A5) (And.intro (heap_alloc_new w5 (.cells #[.int .i64 3, .int .i64 a1, .slice g2 d.length k2, .slice g3 s.length k3, .slice g4 t.length k4, .int .i64 0, .int .i64 0, .int .i64 0] 24)) (blk_alloc ((B5.block x5 (Array.getElem?_eq_some_iff.1 H4.out.2.2.2).1).trans H4.out.2.2.2) (.cells #[.int .i64 3, .int .i64 a1, .slice g2 d.length k2, .slice g3 s.length k3, .slice g4 t.length k4, .int .i64 0, .int .i64 0, .int .i64 0] 24))))))
      have x5l : x5 < w5.heap.size := Nat.lt_of_lt_of_le (Array.getElem?_eq_some_iff.1 H4.out.2.2.2).1 B5.size
      clear R2 R3 R4 B5 A5
      obtain ⟨y0, y1, y2, y3, y4, y5, y6, y7⟩ := hc8 H5.out.2.2.2.2.2
      obtain ⟨v0, v1, v2, v3, v4, v5, v6, v7⟩ := hc8 H5.out.2.2.2.2.1
      have HR5 : Hid _ := And.intro (H3.out.2.1.below H5.out.1) True.intro
      go_wp2_with fail
      go_at_call 9
      have SM := sameR _ _ d _ H5.out.2.1 (show Row _ .u8 (.slice c2 d.length p2) d by obtain ⟨j2, j3, j4, ej, m2, m3, m4⟩ := HR5.out.1; cases ej; exact m2)
      refine SM.mono ?_
      rintro e wy ⟨rfl, hwy⟩
      subst wy
      clear SM
      go_wp2_with fail
      go_at_call 9
      have SM := sameR _ _ s _ H5.out.2.2.1 (show Row _ .u8 (.slice c3 s.length p3) s by obtain ⟨j2, j3, j4, ej, m2, m3, m4⟩ := HR5.out.1; cases ej; exact m3)
      refine SM.mono ?_
      rintro e wy ⟨rfl, hwy⟩
      subst wy
      clear SM
      go_wp2_with fail
      go_at_call 9
      have SM := sameR _ _ t _ H5.out.2.2.2.1 (show Row _ .u8 (.slice c4 t.length p4) t by obtain ⟨j2, j3, j4, ej, m2, m3, m4⟩ := HR5.out.1; cases ej; exact m4)
      refine SM.mono ?_
      rintro e wy ⟨rfl, hwy⟩
      subst wy
      clear SM

      clear y0 y1 y2 y3 y4 y5 y6 y7 v0 v1 v2 v3 v4 v5 v6 v7
      have H5b : Hid _ := And.intro (belowP_trans H3.out.1 H5.out.1) (And.intro (H3.out.2.2.1.below H5.out.1) (And.intro (H3.out.2.2.2.2.below H5.out.1) H5.out.1))
      clear H5 HR5 H4
      generalize w5.alloc (.cells #[.int .i64 3, .int .i64 a1, .slice g2 d.length k2, .slice g3 s.length k3, .slice g4 t.length k4, .int .i64 0, .int .i64 0, .int .i64 0] 24) = W5 at H5b ⊢
      go_wp2_with fail
      go_at_call 8
      refine (copiedR (.slice co oo.length po) oo W5 H5b.out.2.1 (by have := HC.out.2.2.2.2.2; omega)).mono ?_
      rintro e w6 ⟨r6, rfl, O6, B6⟩
      obtain ⟨i0, hi, hz0, hz1, hz2⟩ := info_parts infoP1
      have lo := HC.out.2.2.2.2.2
      have HO6 : Hid _ := And.intro O6 B6
      clear O6 B6
      go_wp2_with (at_builtin; refine wpList_append_own _ rfl _ _ 22 rfl W5.heap.size 5 i0 (.int .u8 0) 1 1 Tryz.underlying22 hi hz0 hz1 hz2 rfl (by decide) _ _ _ rfl (HO6.out.1.alloc _) ⟨w6.heap.size, 0, none⟩ 1 1 [.int .u8 1] rfl rfl ?c1 ?c2 ?c3 ?c4 ?c5 ?_)
      case c1 =>
        intro j u hj
        match j, hj with
        | 0, hj => simp at hj; subst hj; simp [Addr.add]
      case c2 => intro u hu; simp at hu; subst hu; rfl
      case c3 => unfold maxLen; omega
      case c4 => omega
      case c5 => have := HO6.out.2.size; simp; omega
      intro v7 w7 O7 G7 _
      have R7 : Row w7 .u8 v7 (oo ++ [1]) := row_of_owns (n := oo.length + 1) (by rw [List.map_append]; exact O7)
      have B7 : Below W5.heap.size W5 w7 := (HO6.out.2.alloc HO6.out.2.size _).grown G7 (by have := HO6.out.2.size; simp; omega) (fun k hk => (HO6.out.1.lt k hk).1)
      have H7 : Hid _ := And.intro (belowP_trans H5b.out.1 B7) (And.intro R7 (And.intro (H5b.out.2.2.1.below B7) (belowP_trans H5b.out.2.2.2 B7)))
      clear O7 G7 R7 B7 hi hz0 hz1 hz2 lo
      go_wp2_with fail
      go_at_call 7
      refine (HZ.out.2.1 w7 _ _ (HA.out.2.2.1.to H7.out.1) H7.out.2.2.1 H7.out.2.1).mono ?_
      rintro e w8 ⟨g2', g3', g4', k2', k3', k4', rfl, R2, R3, R4, B8⟩
      have A8 : Below w8.heap.size w8 (w8.alloc (.cells #[.int .i64 z'.f, .int .i64 z'.v, .slice g2' z'.d.length k2', .slice g3' z'.s.length k3', .slice g4' z'.t.length k4', .int .i64 z'.n, .int .i64 z'.l, .int .i64 z'.p] 24)) := (Below.refl _ _).alloc (Nat.le_refl _) _
      have B8a := belowP_trans B8 A8
      have H8 : Hid _ := And.intro (belowP_trans H7.out.1 B8a) (And.intro (H7.out.2.1.below B8a) (And.intro (H7.out.2.2.1.below B8a) (belowP_trans H7.out.2.2.2 B8a)))
      clear R2 R3 R4 B8 A8 B8a
      go_wp2_with fail
      go_at_call 10
      refine (HZ.out.2.2.1 _ _ _ (HA.out.2.2.1.to H8.out.1) H8.out.2.2.1 H8.out.2.1).mono ?_
      rintro e w9 ⟨g2'', g3'', g4'', k2'', k3'', k4'', rfl, R2, R3, R4, B9⟩
      have A9 : Below w9.heap.size w9 (w9.alloc (.cells #[.int .i64 z'.f, .int .i64 z'.v, .slice g2'' z'.d.length k2'', .slice g3'' z'.s.length k3'', .slice g4'' z'.t.length k4'', .int .i64 z'.n, .int .i64 z'.l, .int .i64 z'.p] 24)) := (Below.refl _ _).alloc (Nat.le_refl _) _
      have H9 : Hid _ := And.intro (belowP_trans H8.out.2.2.2 (belowP_trans B9 A9)) True.intro
      clear R2 R3 R4 B9 A9
      go_wp2_with fail
      go_meet
      exact H9.out.1
    · have hcz : (c == 0) = false := by rw [ec]; rfl
      clear ec
      go_wp2_with fail
      go_meet
      exact Below.refl _ _

  case rest =>
  have BC := belowP_trans H3.out.1 hcut
  have H10 : Hid _ := And.intro BC (And.intro (HA.out.1.below BC) (And.intro (HA.out.2.1.below BC) (HA.out.2.2.1.to BC)))
  clear hcut BC hcc H3 H2 H1 HC
  go_wp2_with fail
  go_at_call 11
  refine (drawVersC _ xs wc H10.out.2.1 HA.out.2.2.2.1 (by have := HA.out.2.2.2.2.2.1; omega)).mono ?_
  rintro e w11 ⟨vd, vs', vv, vd', vs'', vl, rfl, Rd, Rs, Rv, bd, bs, ld, ls, lv, B11⟩
  obtain ⟨y, c', VI, VS, hv⟩ := vpC_both vd' vs'' vl bd bs ld ls lv
  have HV : Hid _ := And.intro VI (And.intro VS (And.intro hv lv))
  have hcc : (c' != c') = false := by simp
  obtain ⟨vda, vdc, rfl⟩ := Rd.form
  obtain ⟨vsa, vsc, rfl⟩ := Rs.form
  obtain ⟨vva, vvc, rfl⟩ := Rv.form
  have H11 : Hid _ := And.intro (belowP_trans H10.out.1 B11) (And.intro Rd (And.intro Rs Rv))
  clear VI VS hv bd bs ld ls lv Rd Rs Rv B11
  go_wp2_with fail
  go_at_call 12
  refine (HV.out.1 w11 _ _ _ H11.out.2.1 H11.out.2.2.1 H11.out.2.2.2).mono ?_
  rintro e w12 ⟨r12, rfl, R12, B12⟩
  have H12 : Hid _ := And.intro (belowP_trans H11.out.1 B12) (And.intro (H11.out.2.1.below B12) (And.intro (H11.out.2.2.1.below B12) (And.intro (H11.out.2.2.2.below B12) R12)))
  clear R12 B12
  go_wp2_with fail
  go_at_call 13
  refine (HV.out.2.1 w12 _ _ _ H12.out.2.1 H12.out.2.2.1 H12.out.2.2.2.1).mono ?_
  rintro e w13 ⟨r13, rfl, R13, B13⟩
  have H13 : Hid _ := And.intro (belowP_trans H12.out.1 B13) (And.intro (H12.out.2.2.2.1.below B13) (H12.out.2.2.2.2.below B13))
  clear R13 B13 H11 H12
  go_upto_if 150 with fail
  go_cut [23, 24] from 150 to 163 (fun s23 s24 wx => Below w13.heap.size w13 wx)
  case first =>
    rcases HV.out.2.2.1 with ⟨ec, bY', ly, eL, eC⟩ | ec
    · have hcz : (c' == 0) = true := by rw [ec]; rfl
      obtain ⟨ya, yc, ey⟩ := H13.out.2.2.form
      subst ey
      have RV := implRV _ y w13 (HA.out.2.2.1.to H13.out.1) H13.out.2.2 bY' (by omega)
      rw [eL, eC] at RV
      have HRV : Hid _ := And.intro RV True.intro
      clear RV eL eC ec bY' ly
      go_wp2_with fail
      go_at_call 14
      refine HRV.out.1.mono ?_
      rintro e w14 ⟨r14, rfl, O14, B14⟩
      have H14 : Hid _ := And.intro B14 (And.intro (row_of_owns O14) (H13.out.2.1.below B14))
      clear O14 B14
      go_wp2_with fail
      go_at_call 15
      refine (sameI_same _ _ vl w14 H14.out.2.1 H14.out.2.2 (by have := HV.out.2.2.2; omega)).mono ?_
      rintro e w15 ⟨rfl, qn, hw15⟩
      have H15 : Hid _ := And.intro (show Below w13.heap.size w13 w15 by rw [hw15]; exact belowP_trans H14.out.1 (belowP_drewN w14 qn)) True.intro
      clear hw15
      go_wp2_with fail
      go_meet
      exact H15.out.1
    · have hcz : (c' == 0) = false := by rw [ec]; rfl
      clear ec
      go_wp2_with fail
      go_meet
      exact Below.refl _ _

  case rest =>
  have BC := belowP_trans H13.out.1 hcut
  have H16 : Hid _ := And.intro BC (And.intro (HA.out.1.below BC) (HA.out.2.1.below BC))
  clear hcut BC hcc H13 H10 HV
  rename_i wc0
  go_wp2_with fail
  go_at_call 16
  refine (drawTokenC _ xs _ H16.out.2.1 HA.out.2.2.2.1 (by have := HA.out.2.2.2.2.2.1; omega)).mono ?_
  rintro e w17 ⟨vk, vc, ks, cs, rfl, Rk, Rc, bk, bc, lk, lc, B17⟩
  obtain ⟨tk, TI, TS, bt, hk⟩ := tkC_both ks cs bk bc lk lc
  have HT : Hid _ := And.intro TI (And.intro TS (And.intro bt hk))
  have H17 : Hid _ := And.intro (belowP_trans H16.out.1 B17) (And.intro Rk (And.intro Rc (H16.out.2.2.below B17)))
  clear TI TS bt hk Rk Rc bk bc lk lc B17
  go_wp2_with fail
  go_at_call 17
  refine (HT.out.1 w17 _ _ H17.out.2.1 H17.out.2.2.1).mono ?_
  rintro e w18 ⟨r18, rfl, R18, B18⟩
  have H18 : Hid _ := And.intro (belowP_trans H17.out.1 B18) (And.intro (H17.out.2.1.below B18) (And.intro (H17.out.2.2.1.below B18) (And.intro (H17.out.2.2.2.below B18) R18)))
  clear R18 B18
  go_wp2_with fail
  go_at_call 18
  refine (HT.out.2.1 w18 _ _ H18.out.2.1 H18.out.2.2.1).mono ?_
  rintro e w19 ⟨r19, rfl, R19, B19⟩
  have H19 : Hid _ := And.intro (belowP_trans H18.out.1 B19) (And.intro (H18.out.2.2.2.1.below B19) (And.intro (H18.out.2.2.2.2.below B19) R19))
  clear R19 B19
  go_wp2_with fail
  go_at_call 9
  refine (sameR _ _ tk w19 H19.out.2.2.1 H19.out.2.2.2).mono ?_
  rintro e w20 ⟨rfl, hw20⟩
  subst w20
  obtain ⟨ta, tc, et⟩ := H19.out.2.2.1.form
  subst et
  clear H16 H17 H18
  rcases HT.out.2.2.2 with ek | l8
  · subst ek
    go_wp2_with fail
    go_ret
    exact ⟨rfl, H19.out.1⟩
  obtain ⟨kk, ekk⟩ : ∃ kk, kk = atV ys 0 80 := ⟨_, rfl⟩
  have kb := atV_bd ys 0 80 (by decide)
  rw [← ekk] at kb
  obtain ⟨q, eq⟩ : ∃ q : Nat, (q : Int) = 13 + kk := ⟨(13 + kk).toNat, by omega⟩
  have lq : IntKind.i64.wrap (13 + kk) = (q : Int) := by rw [IntKind.wrap_i64]; omega
  have q13 : 13 ≤ q := by omega
  have q100 : q ≤ 100 := by omega
  have HK : Hid _ := And.intro ekk (And.intro l8 True.intro)
  obtain ⟨i0, hi, hz0, hz1, hz2⟩ := info_parts infoP1
  clear kb eq ekk
  rw [l8] at H19
  rw [l8]
  go_wp2_with fail
  go_at_call 20
  refine (atC _ ys 0 80 w19 H19.out.2.1 HA.out.2.2.2.2.1 (by have := HA.out.2.2.2.2.2.2; omega) (by decide) (by decide) (by decide)).mono ?_
  rintro e w20 ⟨rfl, qn, hw20⟩
  rw [← HK.out.1]
  have D20 : Below w19.heap.size w19 w20 := by rw [hw20]; exact belowP_drewN w19 qn
  have H20 : Hid _ := And.intro (belowP_trans H19.out.1 D20) (H19.out.2.2.1.below D20)
  clear hw20 D20
  go_wp2_with (at_make; refine wpList_make_full _ rfl _ _ 22 rfl w.heap.size 5 i0 (.int .u8 0) 1 Tryz.underlying22 hi hz0 hz1 .i64 .i64 (q : Int) (q : Int) q rfl rfl rfl rfl (by rw [hz2]; omega) (by unfold maxLen; omega) (by have := H20.out.1.size; omega) ?_; intro w21 hown hg)
  have b21 : Below w20.heap.size w20 w21 := (Below.refl _ _).grown hg (Nat.le_refl _) (by intro k hk; cases hk)
  have H21 : Hid _ := And.intro (belowP_trans H20.out.1 b21) (And.intro (H20.out.2.below b21) (row_of_owns (made_zero hown)))
  clear hown hg b21

  go_wp2_with fail
  go_at_call 19
  refine (rpC _ _ tk q w21 H21.out.2.1 H21.out.2.2 q13 q100 l8).mono ?_
  rintro e w22 ⟨r22, rfl, R22, B22⟩
  have H22 : Hid _ := And.intro (belowP_trans H21.out.1 B22) (And.intro (H21.out.2.1.below B22) R22)
  clear R22 B22 H21 H20
  go_wp2_with (at_make; refine wpList_make_full _ rfl _ _ 22 rfl w.heap.size 5 i0 (.int .u8 0) 1 Tryz.underlying22 hi hz0 hz1 .i64 .i64 8 8 8 rfl rfl rfl rfl (by rw [hz2]; decide) (by unfold maxLen; decide) (by have := H22.out.1.size; omega) ?_; intro w23 hown hg)
  have b23 : Below w22.heap.size w22 w23 := (Below.refl _ _).grown hg (Nat.le_refl _) (by intro k hk; cases hk)
  have z23 : w22.heap.size < w23.heap.size := by
    rcases hown.2 with ⟨e1, _⟩ | ⟨b, cap', cur, e1, hb, hh, _⟩
    · cases e1
    · cases e1
      exact (Array.getElem?_eq_some_iff.1 hh).1
  have H23 : Hid _ := And.intro (belowP_trans H22.out.1 b23) (And.intro (H22.out.2.1.below b23) (And.intro (H22.out.2.2.below b23) (row_of_owns (made_zero hown))))
  obtain ⟨zs, ezs⟩ : ∃ zs : List Int, zs = List.replicate 8 0 := ⟨_, rfl⟩
  have HZs : Hid _ := And.intro ezs (show Bytes zs by rw [ezs]; exact zeros_bytes 8)
  rw [← ezs] at H23
  obtain ⟨x30, e30⟩ : ∃ x30, x30 = w22.heap.size := ⟨_, rfl⟩
  rw [← e30] at H23 ⊢
  clear hown hg b23 ezs hi hz0 hz1 hz2 H22 e30 z23

  obtain ⟨R, eR⟩ : ∃ R : List Int, R = rpV tk (List.replicate q 0) := ⟨_, rfl⟩
  have lR : R.length ≤ 200 := by rw [eR, rpV_length, List.length_replicate, l8]; omega
  have HRr : Hid _ := And.intro eR lR
  rw [← eR] at H23
  clear eR lR
  go_wp2_with fail
  go_at_call 8
  refine (copiedR r22 R w23 H23.out.2.2.1 (by have := HRr.out.2; omega)).mono ?_
  rintro e w24 ⟨r24, rfl, O24, B24⟩
  have A24 : Below w24.heap.size w24 (w24.alloc (.cells #[.int .u8 1] 5)) := (Below.refl _ _).alloc (Nat.le_refl _) _
  have B24a := belowP_trans B24 A24
  have R1 : Row (w24.alloc (.cells #[.int .u8 1] 5)) .u8 (.slice (some ⟨w24.heap.size, 0, none⟩) 1 1) [1] := row_of_owns (World.ownsRow_lit w24 #[.int .u8 1] 1 (Nat.le_refl _) (by decide) rfl)
  have H24 : Hid _ := And.intro (belowP_trans H23.out.1 B24a) (And.intro (H23.out.2.1.below B24a) (And.intro (H23.out.2.2.1.below B24a) (And.intro (H23.out.2.2.2.below B24a) (And.intro ((row_of_owns O24).below A24) R1))))
  clear O24 B24 A24 B24a R1
  go_wp2_with fail
  go_at_call 8
  refine (copiedR (.slice ta 8 tc) tk _ H24.out.2.1 (by have := HK.out.2.1; omega)).mono ?_
  rintro e w25 ⟨r25, rfl, O25, B25⟩
  obtain ⟨ra25, rc25, er25⟩ := (row_of_owns O25).form
  rw [l8] at er25
  subst er25
  obtain ⟨x25, e25⟩ : ∃ x25, x25 = w25.heap.size := ⟨_, rfl⟩
  have A25 : Below w25.heap.size w25 (w25.alloc (.cells #[.slice (some ⟨w24.heap.size, 0, none⟩) 1 1, .slice ra25 8 rc25, .slice (some ⟨x30, 0, none⟩) 8 8] 22)) := (Below.refl _ _).alloc (Nat.le_refl _) _
  have B25a := belowP_trans B25 A25
  have SR : SRow (w25.alloc (.cells #[.slice (some ⟨w24.heap.size, 0, none⟩) 1 1, .slice ra25 8 rc25, .slice (some ⟨x30, 0, none⟩) 8 8] 22)) (.slice (some ⟨x25, 0, none⟩) 3 3) [[1], tk, zs] := by
    have hh := heap_alloc_new w25 (.cells #[.slice (some ⟨w24.heap.size, 0, none⟩) 1 1, .slice ra25 8 rc25, .slice (some ⟨x30, 0, none⟩) 8 8] 22)
    refine Or.inr ⟨x25, 0, 3, rfl, by rw [e25]; simp, fun j hj => ?_⟩
    rw [e25, bk_cell hh (0 + j)]
    match j, hj with
    | 0, _ => exact ⟨_, rfl, H24.out.2.2.2.2.2.below B25a⟩
    | 1, _ => exact ⟨_, rfl, (row_of_owns O25).below A25⟩
    | 2, _ => exact ⟨_, rfl, H24.out.2.2.2.1.below B25a⟩
  have H25 : Hid _ := And.intro (belowP_trans H24.out.1 B25a) (And.intro (H24.out.2.1.below B25a) (And.intro (H24.out.2.2.1.below B25a) (And.intro (H24.out.2.2.2.1.below B25a) (And.intro (H24.out.2.2.2.2.1.below B25a) SR))))
  clear O25 B25 A25 B25a SR
  go_wp2_with fail
  go_at_call 21
  rw [← e25]
  have IC := isC r24 (.slice (some ⟨x25, 0, none⟩) 3 3) tk q [[1], tk, zs] 1 _ (by have := H25.out.2.2.2.2.1; rw [HRr.out.1] at this; exact this) H25.out.2.2.2.2.2 q13 q100 l8 HT.out.2.2.1 (by simp) (fun j => by
    match j with
    | 0 => exact bytes_cons (by decide) (by decide) (by intro x hx; cases hx)
    | 1 => exact HT.out.2.2.1
    | 2 => exact HZs.out.2
    | j + 3 => intro x hx; simp at hx) (fun j => by
    match j with
    | 0 => simp
    | 1 => show tk.length ≤ 100; omega
    | 2 => show zs.length ≤ 100; rw [HZs.out.1]; simp
    | j + 3 => simp) (idx_tok tk zs l8)
  refine IC.mono ?_
  rintro e w26 ⟨rfl, B26⟩
  have H26 : Hid _ := And.intro (belowP_trans H25.out.1 B26) (And.intro (H25.out.2.1.below B26) (And.intro (H25.out.2.2.1.below B26) (H25.out.2.2.2.1.below B26)))
  clear IC B26 H23 H24 H25

  by_cases hzt : tk = zs
  · have SM : Calls Tryz.prog 9 #[.slice ta 8 tc, .slice (some ⟨x30, 0, none⟩) 8 8] w26 fun e w' => e = .returned (.bool true) ∧ w' = w26 := sameR _ _ tk w26 H26.out.2.1 (by have := H26.out.2.2.2; rw [← hzt] at this; exact this)
    have HS : Hid _ := And.intro SM True.intro
    clear SM hzt
    go_wp2_with fail
    go_at_call 9
    refine HS.out.1.mono ?_
    rintro e w27 ⟨rfl, hw27⟩
    subst w27
    go_wp2_with fail
    go_ret
    exact ⟨rfl, H26.out.1⟩
  · have SM : Calls Tryz.prog 9 #[.slice ta 8 tc, .slice (some ⟨x30, 0, none⟩) 8 8] w26 fun e w' => e = .returned (.bool false) ∧ w' = w26 := sameN _ _ tk zs w26 H26.out.2.1 H26.out.2.2.2 HT.out.2.2.1 HZs.out.2 hzt
    have HS : Hid _ := And.intro SM hzt
    clear SM hzt
    go_wp2_with fail
    go_at_call 9
    refine HS.out.1.mono ?_
    rintro e w27 ⟨rfl, hw27⟩
    subst w27
    have A26 : Below w26.heap.size w26 (w26.alloc (.cells #[.slice (some ⟨x30, 0, none⟩) 8 8] 22)) := (Below.refl _ _).alloc (Nat.le_refl _) _
    obtain ⟨x26, e26⟩ : ∃ x26, x26 = w26.heap.size := ⟨_, rfl⟩
    have SR : SRow (w26.alloc (.cells #[.slice (some ⟨x30, 0, none⟩) 8 8] 22)) (.slice (some ⟨x26, 0, none⟩) 1 1) [zs] := by
      have hh := heap_alloc_new w26 (.cells #[.slice (some ⟨x30, 0, none⟩) 8 8] 22)
      refine Or.inr ⟨x26, 0, 1, rfl, by rw [e26]; simp, fun j hj => ?_⟩
      rw [e26, bk_cell hh (0 + j)]
      match j, hj with
      | 0, _ => exact ⟨_, rfl, H26.out.2.2.2.below A26⟩
    have H27 : Hid _ := And.intro (belowP_trans H26.out.1 A26) (And.intro (H26.out.2.2.1.below A26) SR)
    clear A26 SR
    go_wp2_with fail
    go_at_call 21
    rw [← e26]
    have IC := isC r22 (.slice (some ⟨x26, 0, none⟩) 1 1) tk q [zs] (-1) _ (by have := H27.out.2.1; rw [HRr.out.1] at this; exact this) H27.out.2.2 q13 q100 l8 HT.out.2.2.1 (by simp) (fun j => by
      match j with
      | 0 => exact HZs.out.2
      | j + 1 => intro x hx; simp at hx) (fun j => by
      match j with
      | 0 => show zs.length ≤ 100; rw [HZs.out.1]; simp
      | j + 1 => simp) (idx_none tk zs (fun e => HS.out.2 e.symm))
    refine IC.mono ?_
    rintro e w28 ⟨rfl, B28⟩
    have H28 : Hid _ := And.intro (belowP_trans H27.out.1 B28) True.intro
    clear IC B28
    go_wp2_with fail
    go_ret
    exact ⟨rfl, H28.out.1⟩
theorem fnPlainPackets_walk (v0 : Value) (x0 : List Int) (v1 : Value) (x1 : List Int) (l0 : x0.length ≤ maxLen) (wf0 : ∀ x ∈ x0, (Lit.int .u8 x).wf = true) (l1 : x1.length ≤ maxLen) (wf1 : ∀ x ∈ x1, (Lit.int .u8 x).wf = true) (w : World) (row0 : Row w .u8 v0 x0) (row1 : Row w .u8 v1 x1) (ht : T3 w) :
    Calls Tryz.prog 3 #[v0, v1] w fun e w' => e = .returned (.bool true) ∧ Below w.heap.size w w' := by
  have m0 : x0.length ≤ 9223372036854775807 := by have h := l0; unfold maxLen at h; omega
  have m1 : x1.length ≤ 9223372036854775807 := by have h := l1; unfold maxLen at h; omega
  obtain ⟨ao, cp, rfl⟩ := row0.form
  obtain ⟨ao1, cp1, rfl⟩ := row1.form
  by_cases h : 1048576 < x0.length ∨ 1048576 < x1.length
  · exact plain_long ao ao1 _ _ cp cp1 w m0 m1 h
  · exact plain_core ao ao1 _ _ cp cp1 x0 x1 w (by omega) (by omega) rfl rfl (bytes_of_wf wf0) (bytes_of_wf wf1) row0 row1 ht

end Go.Proofs.YtoalillggafnpaaGreatDoor

namespace Go.Proofs.YtoalillggafnpaaGreatDoor.fnPlainPackets
open Go.ChangeShapes Go.WideShapes Go.ChangeAt Go.RowKit
set_option linter.unusedVariables false

theorem own : ownKnob Tryz.prog.godebug = none := by kernel_rfl
theorem laidOut : laidOutB Tryz.prog = true := by kernel_rfl
theorem cells_b : Tryz.prog.cellsOf 5 = 1 := by kernel_rfl
theorem gTab : Tryz.prog.globalNamed "loop.example/g00012/impl.varFormLengths" = some 2 := by kernel_rfl
theorem gTabType : (Tryz.prog.globals[2]?).map (·.type) = some 85 := by kernel_rfl
theorem gLong : Tryz.prog.globalNamed "loop.example/g00012/impl.longForms" = some 0 := by kernel_rfl
theorem gLongType : (Tryz.prog.globals[0]?).map (·.type) = some 85 := by kernel_rfl
theorem cellsArr : Tryz.prog.cellsOf 85 = 4 := by kernel_rfl
theorem cellsInt : Tryz.prog.cellsOf 3 = 1 := by kernel_rfl
theorem et : Tryz.prog.globalNamed "errors.errorType" = some 1 := by kernel_rfl
theorem rt : (Tryz.prog.cutTypes.find? (·.1 == "internal/reflectlite.rtype")).map (·.2) = some 140 := by kernel_rfl
theorem oneRow : ((List.range (Tryz.prog.types.size)).filter fun t => Tryz.prog.rowNamed t [101, 114, 114, 111, 114]) = [64] := by kernel_rfl
theorem laidMet_tail {P : Program} {W : World} {x : String × DataW Unit} {l : List (String × DataW Unit)} (h : laidMet P (x :: l) W) : laidMet P l W := by
  obtain ⟨n, d⟩ := x
  obtain ⟨ps, ⟨g', t', cs, fuel, p, q, hg', ht', hvar, hd, hr, hps⟩, hnd, hall⟩ := h
  subst hps
  exact ⟨q, hr, (List.nodup_append.1 hnd).2.1, fun b off hm => hall b off (List.mem_append_right _ hm)⟩
theorem table {W : World} (h : laidMetH Tryz.prog Rows.fnPlainPacketsRow.laid W) : T3 W := by
  have h' : laidMet Tryz.prog [("loop.example/g00012/impl.varFormLengths", Lib.tabData .i64 [1, 2, 4, 8]), ("loop.example/g00012/impl.longForms", Lib.tabData .i64 [1, 0, 2, 3])] W ∧ handlesMet Tryz.prog [("errors.errorType", Rows.laid_errors_errorType)] W := h
  have t : Lib.TabIs Tryz.prog W "loop.example/g00012/impl.varFormLengths" .i64 [1, 2, 4, 8] :=
    Lib.tabIs_of_head gTab gTabType Tryz.underlying85 Tryz.underlying3 cellsInt cellsArr h'.1
  have t2 : Lib.TabIs Tryz.prog W "loop.example/g00012/impl.longForms" .i64 [1, 0, 2, 3] :=
    Lib.tabIs_of_head gLong gLongType Tryz.underlying85 Tryz.underlying3 cellsInt cellsArr (laidMet_tail h'.1)
  refine ⟨⟨t.cell gTab 0 (by decide), t.cell gTab 1 (by decide), t.cell gTab 2 (by decide), t.cell gTab 3 (by decide)⟩, ⟨t2.cell gLong 0 (by decide), t2.cell gLong 1 (by decide), t2.cell gLong 2 (by decide), t2.cell gLong 3 (by decide)⟩, ?_⟩
  obtain ⟨name, u, ty, e1, e2, e3, e4, e5⟩ := h'.2 _ (List.mem_singleton.2 rfl)
  have en : name = [101, 114, 114, 111, 114] := (Option.some.inj e1).symm
  subst en
  obtain rfl := Option.some.inj (rt.symm.trans e2)
  have hm : ty ∈ (List.range (Tryz.prog.types.size)).filter fun t => Tryz.prog.rowNamed t [101, 114, 114, 111, 114] := List.mem_filter.2 ⟨List.mem_range.2 e3, e4⟩
  rw [oneRow] at hm
  obtain rfl := List.mem_singleton.1 hm
  have hh : typeHandle Tryz.prog 64 = .pointer (some ⟨3, 64, none⟩) := by kernel_rfl
  rw [hh] at e5
  unfold errT
  simpa using World.var?_cell et e5 0
theorem trodVars_two {H : Type} {enc : TypeId × Value → H} {P : Program} {w : World} {spare : Nat → Bool} {n1 n2 : String} {gs : List (DataW H)} {ps : List MemPlace} (h : DataW.TrodVars enc P w spare [n1, n2] gs ps) : ∃ d1 d2, gs = [d1, d2] := by
  cases gs with
  | nil => simp [DataW.TrodVars] at h
  | cons d ds =>
    cases ds with
    | nil => simp [DataW.TrodVars] at h
    | cons d2 ds2 =>
      cases ds2 with
      | nil => exact ⟨d, d2, rfl⟩
      | cons d3 ds3 => simp [DataW.TrodVars] at h

set_option maxRecDepth 20000 in
theorem contract (H : Type) (enc : TypeId × Value → H) (W : World) (base : Nat) (args : Array Value) (ds gs : List (DataW H)) (before : List MemPlace)
    (hval : ∀ (j : Nat) t v, Tryz.f3.params[j]? = some t → args[j]? = some v → Value.okWide Tryz.prog W .any base t v)
    (hW : DataW.Whole enc Tryz.prog Tryz.f3.params.toList Rows.fnPlainPacketsSpec.vars false W args.toList ds gs before) (hL : laidMetH Tryz.prog Rows.fnPlainPacketsRow.laid W) :
    Calls Tryz.prog 3 args W fun e W' => ∃ v, e = .returned v ∧ Rows.fnPlainPacketsSpec.post enc Tryz.prog Tryz.f3 false true false false W args v W' := by
  have hW' := hW
  obtain ⟨p, q, hA0, hV, rfl, hfz, hnd⟩ := hW
  have hA : DataW.TrodAll enc Tryz.prog W 0 (fun _ => true) true Tryz.f3.params.toList args.toList ds p := hA0
  rw [Tryz.params3] at hA hval
  obtain ⟨v0, vs0, d0, ds0, p0, q0, hargs, rfl, rfl, h0, r0⟩ := trodAll_cons hA
  obtain ⟨v1, vs1, d1, ds1, p1, q1, rfl, rfl, rfl, h1, r1⟩ := trodAll_cons r0
  obtain ⟨rfl, rfl, rfl⟩ := trodAll_nil r1
  obtain rfl : args = #[v0, v1] := by cases args; simp_all
  obtain ⟨g1, g2, rfl⟩ := trodVars_two hV
  obtain ⟨xs0, row0, len0, wf0⟩ := open_row Tryz.underlying22 Tryz.underlying5 cells_b (hval 0 22 v0 rfl rfl) h0
  obtain ⟨xs1, row1, len1, wf1⟩ := open_row Tryz.underlying22 Tryz.underlying5 cells_b (hval 1 22 v1 rfl rfl) h1
  refine (fnPlainPackets_walk v0 xs0 v1 xs1 len0 wf0 len1 wf1 W row0 row1 (table hL)).mono fun e W' ⟨he, hb⟩ => ?_
  subst he
  exact ⟨_, rfl, law_post laidOut (by kernel_rfl) (by kernel_rfl) (by kernel_rfl) Tryz.underlying4 hW' rfl hb⟩

theorem laid_met (os : Os) : laidMetH Tryz.prog Rows.fnPlainPacketsRow.laid (({ (World.holding Tryz.prog os ⟨#[], #[], []⟩) with heap := (((World.holding Tryz.prog os ⟨#[], #[], []⟩).heap.modify 1 fun | .cells _ t frozen => .cells #[.iface 140 (.agg #[.pointer (some ⟨3, 64, none⟩)])] t frozen | o => o).modify 0 fun | .cells _ t frozen => .cells #[.int .i64 1, .int .i64 0, .int .i64 2, .int .i64 3] t frozen | o => o).modify 2 fun | .cells _ t frozen => .cells #[.int .i64 1, .int .i64 2, .int .i64 4, .int .i64 8] t frozen | o => o } : World).forCall (fun _ _ => 0) ⟨#[], #[.slice none 0 0, .slice none 0 0], []⟩).memory :=
  laidMetH_of_parts (laidMet_of_run' 8 (by kernel_rfl) (by kernel_rfl)) (by kernel_rfl)
theorem reads (os : Os) {H : Type} (enc : TypeId × Value → H) : ∃ places, DataW.whole enc Tryz.prog (({ (World.holding Tryz.prog os ⟨#[], #[], []⟩) with heap := (((World.holding Tryz.prog os ⟨#[], #[], []⟩).heap.modify 1 fun | .cells _ t frozen => .cells #[.iface 140 (.agg #[.pointer (some ⟨3, 64, none⟩)])] t frozen | o => o).modify 0 fun | .cells _ t frozen => .cells #[.int .i64 1, .int .i64 0, .int .i64 2, .int .i64 3] t frozen | o => o).modify 2 fun | .cells _ t frozen => .cells #[.int .i64 1, .int .i64 2, .int .i64 4, .int .i64 8] t frozen | o => o } : World).forCall (fun _ _ => 0) ⟨#[], #[.slice none 0 0, .slice none 0 0], []⟩).memory Tryz.f3.params.toList Rows.fnPlainPacketsSpec.vars false #[(.slice none 0 0 : Value), .slice none 0 0].toList 8 = some ([.nil, .nil], [.agg [.lit (.int .i64 1), .lit (.int .i64 0), .lit (.int .i64 2), .lit (.int .i64 3)], .agg [.lit (.int .i64 1), .lit (.int .i64 2), .lit (.int .i64 4), .lit (.int .i64 8)]], places) :=
  ⟨[.cell 0 0, .cell 0 1, .cell 0 2, .cell 0 3, .cell 2 0, .cell 2 1, .cell 2 2, .cell 2 3], by kernel_rfl⟩

set_option maxRecDepth 100000 in
theorem lifted (os : Os) (started : os.Started) (H : Type) (enc : TypeId × Value → H) (F : Stop.Interp) :
    ReturnsInHanded {} Tryz.checked os 3 .any ((OpenSpec.ofChange Rows.fnPlainPacketsSpec).preRow enc Tryz.prog Tryz.f3 Rows.fnPlainPacketsRow.domain false Rows.fnPlainPacketsRow.laid) (((OpenSpec.ofChange Rows.fnPlainPacketsSpec).at F).post enc Tryz.prog Tryz.f3 false true false false) := by
  obtain ⟨places, hx⟩ := reads os enc
  refine returnsInHanded_of_row (C := Tryz.checked) (s := OpenSpec.ofChange Rows.fnPlainPacketsSpec) own started (by kernel_rfl) Tryz.func3
    (witness_row_at (enc := enc) (C := Tryz.checked) false ({ (World.holding Tryz.prog os ⟨#[], #[], []⟩) with heap := (((World.holding Tryz.prog os ⟨#[], #[], []⟩).heap.modify 1 fun | .cells _ t frozen => .cells #[.iface 140 (.agg #[.pointer (some ⟨3, 64, none⟩)])] t frozen | o => o).modify 0 fun | .cells _ t frozen => .cells #[.int .i64 1, .int .i64 0, .int .i64 2, .int .i64 3] t frozen | o => o).modify 2 fun | .cells _ t frozen => .cells #[.int .i64 1, .int .i64 2, .int .i64 4, .int .i64 8] t frozen | o => o } : World) #[.slice none 0 0, .slice none 0 0] rfl (by kernel_rfl) (by kernel_rfl) (by kernel_rfl)
      (OpenSpec.preRow_of_cond 8 hx (by kernel_rfl) (fun k hk => by cases hk) (by kernel_rfl) (laid_met os))) ?_
  intro W base args ds gs before hval hW _ _ _ hL _ _
  exact contract H enc W base args ds gs before hval hW hL

theorem said : Rows.FnPlainPacketsSaid :=
  OpenClaim.holds_of_cond 3 Tryz.f3 rfl rfl rfl rfl rfl rfl rfl ⟨rfl, rfl, rfl, rfl, rfl⟩ rfl rfl rfl rfl rfl (by kernel_rfl) Tryz.func3 (by kernel_rfl)
    (of_decide_eq_true (by kernel_rfl)) (by unfold Func.isWrapper; first | (rw [if_pos (by decide +kernel)]; kernel_rfl) | (rw [if_neg (by decide +kernel)]; exact ⟨rfl, rfl⟩))
    (fun os started H enc _ F => by rw [OpenClaim.pre_eq_preRow]; exact lifted os started H enc F)

theorem plain (f : FuncId) (fn : Func) (hf : Tryz.pinned.checked.prog.funcNamed "loop.example/g00012/laws.FnPlainPackets" = some f) (hfn : Tryz.pinned.checked.prog.funcs[f]? = some fn) :
    true = Tryz.pinned.checked.prog.looks [] ∧ ∀ (j : Nat) t, fn.params[j]? = some t → Tryz.pinned.checked.prog.wantsStandIn t = false := by
  obtain rfl : f = 3 := Option.some.inj ((show Tryz.prog.funcNamed "loop.example/g00012/laws.FnPlainPackets" = some 3 by kernel_rfl).symm.trans hf) |>.symm
  obtain rfl : fn = Tryz.f3 := (Option.some.inj (Tryz.func3.symm.trans hfn)).symm
  refine ⟨by kernel_rfl, fun j t ht => ?_⟩
  rw [Tryz.params3] at ht
  have hm : t ∈ [22, 22] := by simpa using Array.mem_of_getElem? ht
  have hall : ([22, 22].all fun u => !Tryz.prog.wantsStandIn u) = true := by kernel_rfl
  exact (show Tryz.prog.wantsStandIn t = false by simpa using List.all_eq_true.1 hall t hm)

end Go.Proofs.YtoalillggafnpaaGreatDoor.fnPlainPackets

namespace Go.Proofs.YtoalillggafnpaaGreatDoor
theorem fnPlainPackets_holds : Rows.FnPlainPacketsCardSaid :=
  Claim7.holds_tied_plain_at .later [] _ _ _ _ fnPlainPackets.said (fun _ h => by cases h) (by kernel_rfl) (fun _ h => by cases h) fnPlainPackets_row_tie rfl ⟨rfl, rfl⟩ (by kernel_rfl) rfl fnPlainPackets.plain (by kernel_rfl)
#print axioms fnPlainPackets_holds
end Go.Proofs.YtoalillggafnpaaGreatDoor
