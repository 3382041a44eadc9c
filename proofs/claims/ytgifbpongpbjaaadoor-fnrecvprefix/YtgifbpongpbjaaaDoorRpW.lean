import Derived.Test.YtgifbpongpbjaaaDoorRpC
import Derived.Test.YtgifbpongpbjaaaDoorRiE
import Derived.Deep.RegionHeld3
import Derived.Lib.MinMax
namespace Go.Proofs.YtgifbpongpbjaaaDoor
open Go.RowKit
set_option linter.unusedVariables false
set_option linter.unusedSimpArgs false

def txP (xs : List Int) : List Int := [116, 101, 120, 116] ++ xs.take 600
theorem txP_len (xs : List Int) : (txP xs).length = 4 + min 600 xs.length := by simp [txP]; omega
theorem row_pre {w : World} {ao : Option Addr} {cp k : Nat} {xs : List Int} (h : Row w .u8 (.slice ao xs.length cp) xs) (hk : k ≤ xs.length) : Row w .u8 (.slice ao k cp) (xs.take k) := by
  rcases h with ⟨rfl, ao', cap', e⟩ | ⟨b, off, cap, e, hb, hc, hx⟩
  · obtain rfl : k = 0 := by simpa using hk
    exact Or.inl ⟨rfl, ao, cp, rfl⟩
  · cases e
    refine Or.inr ⟨b, off, cp, by simp; omega, hb, ⟨by simp; omega, hc.2⟩, fun j hj => ?_⟩
    have hj' : j < k := by simp at hj; omega
    rw [hx j (by omega)]
    simp [List.getD, List.getElem?_take_of_lt hj']
theorem cell_ltP {w : World} {b o : Nat} {u : Value} (h : w.cell? ⟨b, o, none⟩ = some u) : b < w.heap.size := by
  refine Nat.lt_of_not_le (fun hn => ?_)
  have e : w.heap[b]? = none := Array.getElem?_eq_none (by omega)
  simp [World.cell?, e] at h
set_option maxRecDepth 20000 in
set_option maxHeartbeats 4000000 in
theorem fnRecvPrefix_walk (v0 : Value) (x0 : List Int) (v1 : Value) (x1 : List Int) (l0 : x0.length ≤ maxLen) (wf0 : ∀ x ∈ x0, (Lit.int .u8 x).wf = true) (l1 : x1.length ≤ maxLen) (wf1 : ∀ x ∈ x1, (Lit.int .u8 x).wf = true)
    (w : World) (row0 : Row w .u8 v0 x0) (row1 : Row w .u8 v1 x1) (ht : TabF w) :
    Calls Tryd.prog 3 #[v0, v1] w fun e w' => e = .returned (.bool true) ∧ Below w.heap.size w w' := by
  have hB := bytes_of_wf wf1
  obtain ⟨a0, c0, rfl⟩ := row0.form
  obtain ⟨a1, c1, rfl⟩ := row1.form
  have hl0 : x0.length ≤ 9223372036854775807 := Nat.le_trans l0 (by decide)
  have hl1 : x1.length ≤ 9223372036854775807 := Nat.le_trans l1 (by decide)
  by_cases hb0 : 1048576 < x0.length
  · have hb0' : (1048576 : Int) < (x0.length : Int) := by omega
    generalize x0.length = m0 at *
    generalize x1.length = m1 at *
    clear row0 row1 hB wf0 wf1
    go_enter Tryd.func3, Tryd.ntmps3
    go_wp2
    go_ret
    exact ⟨rfl, Below.refl _ _⟩
  by_cases hb1 : 1048576 < x1.length
  · have hb1' : (1048576 : Int) < (x1.length : Int) := by omega
    have hb0' : ¬ (1048576 : Int) < (x0.length : Int) := by omega
    generalize x0.length = m0 at *
    generalize x1.length = m1 at *
    clear row0 row1 hB wf0 wf1
    go_enter Tryd.func3, Tryd.ntmps3
    go_wp2
    go_ret
    exact ⟨rfl, Below.refl _ _⟩
  have hb0' : ¬ (1048576 : Int) < (x0.length : Int) := by omega
  have hb1' : ¬ (1048576 : Int) < (x1.length : Int) := by omega
  have hcp : x0.length ≤ c0 := by
    rcases row0 with ⟨rfl, _⟩ | ⟨b, off, cap, e, hb, hc, hx⟩
    · exact Nat.zero_le _
    · cases e; exact hc.1
  have hcm : c0 ≤ 9223372036854775807 ∨ x0.length = 0 := by
    rcases row0 with ⟨rfl, _⟩ | ⟨b, off, cap, e, hb, hc, hx⟩
    · exact Or.inr rfl
    · cases e; exact Or.inl (Nat.le_trans hc.2 (by decide))
  obtain ⟨k, ek⟩ : ∃ k, k = min 600 x0.length := ⟨_, rfl⟩
  have rk : Row w .u8 (.slice a0 k c0) (x0.take k) := row_pre row0 (by omega)
  have e600 : x0.take k = x0.take 600 := by rw [ek]; simp [List.take_eq_take_iff]
  have ekm : min (x0.length : Int) 600 = (k : Int) := by omega
  have AT : ∀ (i n : Nat) (wx : World), i ≤ 2147483648 → 1 ≤ n → n ≤ 2147483648 → Below w.heap.size w wx → Calls Tryd.prog 4 #[.slice a1 x1.length c1, .int .i64 (i : Int), .int .i64 (n : Int)] wx fun e w' => e = .returned (.int .i64 (atN x1 i n : Int)) ∧ ∃ m, w' = wx.drewN m :=
    fun i n wx hi h2 hn hb => atP _ x1 i n wx (row1.below hb) hB (by omega) hi h2 hn
  have kl : k ≤ 600 := by omega
  have kl0 : k ≤ c0 := by omega
  have hlen : (txP x0).length = 4 + k := by rw [txP_len, ek]
  have B1 : Below w.heap.size w (w.alloc (.cells #[.int .u8 116, .int .u8 101, .int .u8 120, .int .u8 116] 5 (4, 5))) := (Below.refl _ _).alloc (Nat.le_refl _) _
  have HT : Hid _ := And.intro (rk.below B1) (And.intro B1 (And.intro e600 (And.intro hlen ekm)))
  have HH : Hid _ := And.intro AT (And.intro row1 ht)
  obtain ⟨m0, em0⟩ : ∃ m, m = x0.length := ⟨_, rfl⟩
  obtain ⟨m1, em1⟩ : ∃ m, m = x1.length := ⟨_, rfl⟩
  have EM : Hid _ := And.intro em0 em1
  rw [← em0] at hl0 hb0' hcp hb0 ekm ⊢
  rw [← em1] at hl1 hb1' hb1 ⊢
  rw [← em1] at HH
  clear row0 row1 hB wf0 wf1 l0 l1 AT rk e600 hlen B1 em0 em1 ek hcm
  have CV := constB w #[.int .u8 116, .int .u8 101, .int .u8 120, .int .u8 116] 4 4
  rw [show (#[.int .u8 116, .int .u8 101, .int .u8 120, .int .u8 116] : Array Value).size = 4 from rfl] at CV
  go_enter Tryd.func3, Tryd.ntmps3
  go_wp2_with (at_builtin; (refine wpList_append_txt rfl _ _ rfl w.heap.size 4 [116, 101, 120, 116] rfl rfl (txt_row w) (.slice a0 k c0) (x0.take k) rfl HT.out.1 (by decide) (by simp; omega) ?_; intro v2 w2 r2 b2; rw [HT.out.2.2.1] at r2; have r3 : Row w2 .u8 v2 (txP x0) := r2; obtain ⟨at2, ct2, ev2⟩ := r3.form; rw [HT.out.2.2.2.1] at ev2; subst ev2; have H2 : Hid (Row w2 .u8 (.slice at2 (4 + k) ct2) (txP x0) ∧ Below w.heap.size w w2) := ⟨r3, HT.out.2.1.trans (b2.mono HT.out.2.1.size)⟩; clear r2 r3 b2))
  obtain ⟨N, eN⟩ : ∃ N, N = 4 + k := ⟨_, rfl⟩
  have HN : Hid _ := And.intro eN kl
  have hN1 : N ≤ 604 := by omega
  have hN0 : 4 ≤ N := by omega
  rw [← eN] at H2 ⊢
  rw [← eN] at HT
  clear CV eN kl kl0 ekm hcp hb0' hb0 hl0
  go_loopg [6, 7] N (fun q cv iv wr => ∃ (C : List Int) (i : Nat), q = N + 1 - C.length ∧ iv = .int .i64 (i : Int) ∧ i + 1 = C.length ∧ CutsI C N ∧ wr.ownsRow w2.heap.size 3 1 cv C.length (C.map (Value.int .i64)) ∧ Below w2.heap.size w2 wr)
  case atStart =>
    refine ⟨[0], 0, by simp, rfl, rfl, cuts0 N, ?_, (Below.refl _ _).alloc (Nat.le_refl _) _⟩
    exact World.ownsRow_lit w2 #[.int .i64 0] 1 (Nat.le_refl _) (by decide) rfl
  case round =>
    obtain ⟨C, i, hq, rfl, hi, hC, ho, hb⟩ := hrel
    have hCl := hC.length
    obtain ⟨gc, cc, ev, hg1, hg2, hcc, hcm, hcell⟩ := own_formP ho (by omega)
    subst ev
    have cL := hcell i (by omega)
    have hCi := hC.le i (by omega)
    obtain ⟨la, ela⟩ : ∃ la, la = C.getD i 0 := ⟨_, rfl⟩
    rw [← ela] at cL hCi
    have hcm' : cc ≤ 9223372036854775807 := Nat.le_trans hcm (by decide)
    have EL : Hid _ := And.intro ela (And.intro hi hq)
    have HO : Hid _ := And.intro hC (And.intro ho (And.intro hb hcell))
    rw [← hi] at hCl hcc ⊢
    clear hC ho hb hcell ela hq hcm
    have HN2 : i ≤ 604 := by omega
    clear hi
    by_cases hlt : la < (N : Int)
    · have BW : Below w.heap.size w wr.drew := by
        have b := H2.out.2.trans (HO.out.2.2.1.mono H2.out.2.size)
        exact below_drewN b 1
      have A1 : Calls Tryd.prog 4 #[.slice a1 m1 c1, .int .i64 (i : Int), .int .i64 40] wr.drew fun e w' => e = .returned (.int .i64 (atN x1 i 40 : Int)) ∧ ∃ m, w' = wr.drew.drewN m := HH.out.1 i 40 wr.drew (by omega) (by omega) (by omega) BW
      have ha := atN_lt x1 i 40 (by omega)
      obtain ⟨av, eav⟩ : ∃ av, av = atN x1 i 40 := ⟨_, rfl⟩
      rw [← eav] at A1 ha
      have HA : Hid _ := And.intro A1 True.intro
      clear A1 eav BW
      have O3 : ∀ wx : World, (∃ m, wx = wr.drew.drewN m) → (wx.cell? ⟨gc, i, none⟩ = some (.int .i64 la) ∧ wx.ownsRow w2.heap.size 3 1 (.slice (some ⟨gc, 0, none⟩) (i + 1) cc) C.length (C.map (Value.int .i64)) ∧ Below w2.heap.size w2 wx) := fun wx hm => by
        obtain ⟨m, rfl⟩ := hm
        refine ⟨cL, ?_, below_drewN (below_drewN HO.out.2.2.1 1) m⟩
        rw [EL.out.2.1]
        exact HO.out.2.1
      have HO3 : Hid _ := And.intro O3 True.intro
      clear O3
      have hwi : IntKind.i64.wrap (i : Int) = (i : Int) := by rw [IntKind.wrap_i64]; omega
      have hii : (i : Int) < (i : Int) + 1 := by omega
      have hw1 : IntKind.i64.wrap (la + 1) = la + 1 := by rw [IntKind.wrap_i64]; omega
      have hw2 : IntKind.i64.wrap (la + 1 + (av : Int)) = la + 1 + (av : Int) := by rw [IntKind.wrap_i64]; omega
      go_wp2_with fail
      go_region_law (first
        | (go_simp; go_at_call 4; refine HA.out.1.mono ?_; rintro e w3 ⟨rfl, hx3⟩; obtain ⟨c3, o3, b3⟩ := HO3.out.1 w3 hx3; have H3 : Hid _ := And.intro o3 b3; clear o3 b3 hx3)
        | (refine step_append_i rfl (.tmp 46) (.tmp 61) rfl w2.heap.size (.slice (some ⟨gc, 0, none⟩) (i + 1) cc) C rfl (owns_below H3.out.1 ((Below.refl _ _).alloc (Nat.le_refl _) _)) w3.heap.size _ rfl (lit1P w3 _ _) ?_ ?_ ?_; (have := EL.out.2.1; omega); (have := H3.out.2.size; simp; omega); intro v4 w4 o4 g4))
      all_goals
        have HR : Hid _ := And.intro o4 ((H3.out.2.alloc H3.out.2.size _).grown g4 ((H3.out.2.alloc H3.out.2.size _).size) (fun t ht => (H3.out.1.lt t ht).1))
        clear o4 g4 c3
        go_wp2_with fail
        go_roundg (N + 1 - (C.length + 1))
        case measure => (have := EL.out.2.1; have := EL.out.2.2; omega)
        case rel => exact ⟨C ++ [min (N : Int) (la + 1 + (av : Int))], i + 1, by simp, by go_num, (by have := EL.out.2.1; simp; omega), (by have hn := HO.out.1.next (av : Int) (by omega) (by omega); rw [show C.length - 1 = i by have := EL.out.2.1; omega, ← EL.out.1] at hn; exact hn hlt), (by simpa using HR.out.1), HR.out.2⟩
    · have hla : la = (N : Int) := by omega
      have hi0 : 1 ≤ i := by
        rcases Nat.eq_zero_or_pos i with z | z
        · exfalso
          have e0 := HO.out.1.z
          have e1 := EL.out.1
          rw [z] at e1
          rw [e0] at e1
          omega
        · exact z
      subst hla
      rename World => wl
      have ho2 : wl.ownsRow w2.heap.size 3 1 (.slice (some ⟨gc, 0, none⟩) (i + 1) cc) C.length (C.map (Value.int .i64)) := by rw [EL.out.2.1]; exact HO.out.2.1
      have B2 : Below w.heap.size w wl := H2.out.2.trans (HO.out.2.2.1.mono H2.out.2.size)
      have r2 : Row wl .u8 (.slice at2 N ct2) (txP x0) := H2.out.1.below HO.out.2.2.1
      have A3 : ∀ wx, Below wl.heap.size wl wx → Calls Tryd.prog 4 #[.slice a1 m1 c1, .int .i64 3, .int .i64 (i : Int)] wx fun e w' => e = .returned (.int .i64 (atN x1 3 i : Int)) ∧ ∃ m, w' = wx.drewN m := fun wx hx => HH.out.1 3 i wx (by omega) (by omega) (by omega) (B2.trans (hx.mono B2.size))
      have A4 : ∀ (j : Nat) wx, j ≤ 2147483648 → Below wl.heap.size wl wx → Calls Tryd.prog 4 #[.slice a1 m1 c1, .int .i64 (j : Int), .int .i64 3] wx fun e w' => e = .returned (.int .i64 (atN x1 j 3 : Int)) ∧ ∃ m, w' = wx.drewN m := fun j wx hj hx => HH.out.1 j 3 wx hj (by omega) (by omega) (B2.trans (hx.mono B2.size))
      have A5 : ∀ (j : Nat) wx, j ≤ 2147483648 → Below wl.heap.size wl wx → Calls Tryd.prog 4 #[.slice a1 m1 c1, .int .i64 (j : Int), .int .i64 90] wx fun e w' => e = .returned (.int .i64 (atN x1 j 90 : Int)) ∧ ∃ m, w' = wx.drewN m := fun j wx hj hx => HH.out.1 j 90 wx hj (by omega) (by omega) (B2.trans (hx.mono B2.size))
      have h3 := atN_lt x1 3 i hi0
      obtain ⟨a3, ea3⟩ : ∃ a3, a3 = atN x1 3 i := ⟨_, rfl⟩
      rw [← ea3] at h3
      have A3' : ∀ wx, Below wl.heap.size wl wx → Calls Tryd.prog 4 #[.slice a1 m1 c1, .int .i64 3, .int .i64 (i : Int)] wx fun e w' => e = .returned (.int .i64 (a3 : Int)) ∧ ∃ m, w' = wx.drewN m := by rw [ea3]; exact A3
      have HL : Hid _ := And.intro ho2 (And.intro B2 (And.intro r2 (And.intro A3' (And.intro A4 A5))))
      have hci : ∀ j, j < i + 1 → wl.cell? ⟨gc, j, none⟩ = some (.int .i64 (C.getD j 0)) := fun j hj => HO.out.2.2.2 j (by have := EL.out.2.1; omega)
      have HC : Hid _ := And.intro hci True.intro
      clear ho2 B2 r2 A3 A4 A5 A3' ea3 hci hlt hCi
      go_wp2_with fail
      go_loopg [9, 10] (i + i / 2) (fun q ov iv wx => ∃ (R : List SRecvOp) (j : Nat) (U : Nat → Value) (zs : List Value), j ≤ i + i / 2 ∧ q = i + i / 2 - j ∧ iv = .int .i64 (j : Int) ∧ OpsI C (txP x0) i a3 j R ∧ R.length ≤ 2 * j ∧ OpK wx wl.heap.size ov R U zs ∧ Below wl.heap.size wl wx)
      case atStart =>
        exact ⟨[], 0, _, _, by omega, by omega, rfl, ops0 _ _ _ _, by simp, opk0 wl _ (Nat.le_refl _), (Below.refl _ _).alloc (Nat.le_refl _) _⟩
      case round =>
        obtain ⟨R, j, U, zs, hj, hq, rfl, hop, hRl, hK, hbx⟩ := hrel
        have hrl := hK.ow
        obtain ⟨ao9, co9, ev9⟩ := hK.brow.form
        subst ev9
        have BWL : Below wl.heap.size wl wr.drew := below_drewN hbx 1
        have hj2 : j ≤ 1000 := by omega
        obtain ⟨hf, ehf⟩ : ∃ hf, hf = i / 2 := ⟨_, rfl⟩
        have hjd : (i : Int) / 2 = (hf : Int) := by omega
        have hfb : hf ≤ 302 := by omega
        rw [← ehf] at hj
        have EHF : Hid _ := And.intro ehf True.intro
        have HX : Hid _ := And.intro hop (And.intro hRl (And.intro hK (And.intro hbx hq)))
        have hne : ((i : Int) == 0) = false := by rw [beq_eq_false_iff_ne]; omega
        clear hop hK hbx hq hrl ehf
        by_cases hlt : j < i + hf
        · obtain ⟨r0, er0⟩ : ∃ r0, r0 = j % i := ⟨_, rfl⟩
          have ek : ((j : Int)) % (i : Int) = (r0 : Int) := by rw [er0]; simp
          obtain ⟨kk, ekk⟩ : ∃ kk, kk = kkV i a3 j := ⟨_, rfl⟩
          have hkk := kkV_lt i a3 j hi0
          rw [← ekk] at hkk
          have EK : Hid _ := And.intro er0 ekk
          clear er0 ekk
          have A3x := HL.out.2.2.2.1 wr HX.out.2.2.2.1
          have HA3 : Hid _ := And.intro A3x True.intro
          clear A3x
          go_upto_if 80 with fail
          go_cut [11] from 67 to 132 (fun kv wx => kv = .int .i64 (kk : Int) ∧ ∃ m, wx = wr.drewN m)
          case first =>
            by_cases c1 : j < i
            · have hm7 : IntKind.i64.wrap ((j : Int) * 7) = (j : Int) * 7 := by rw [IntKind.wrap_i64]; omega
              by_cases c7 : i % 7 = 0
              · have c7' : ((i : Int) % 7 == 0) = true := by rw [beq_iff_eq]; omega
                go_wp2_with (go_at_call 4; refine HA3.out.1.mono ?_; rintro e w3 ⟨rfl, hx3⟩)
                go_meet
                refine ⟨?_, hx3⟩
                have e := EK.out.2
                unfold kkV at e
                rw [if_pos c1, if_pos c7] at e
                rw [e]
                congr 1
                omega
              · have c7' : ((i : Int) % 7 == 0) = false := by rw [beq_eq_false_iff_ne]; omega
                go_wp2_with (go_at_call 4; refine HA3.out.1.mono ?_; rintro e w3 ⟨rfl, hx3⟩)
                go_meet
                refine ⟨?_, hx3⟩
                have e := EK.out.2
                unfold kkV at e
                rw [if_pos c1, if_neg c7] at e
                rw [e]
                simp
            · go_wp2_with fail
              go_meet
              refine ⟨?_, 0, rfl⟩
              have e := EK.out.2
              unfold kkV at e
              rw [if_neg c1] at e
              rw [e]
              simp
          case rest =>
          obtain ⟨rfl, hwc⟩ := hcut
          rename World => wc
          have BC : Below wl.heap.size wl wc := by obtain ⟨m, rfl⟩ := hwc; exact below_drewN HX.out.2.2.2.1 m
          have KC : OpK wc wl.heap.size (.slice ao9 R.length co9) R U zs := by
            obtain ⟨m, rfl⟩ := hwc
            exact HX.out.2.2.1.below (below_drewN (Below.refl _ _) m)
          have hki := HO.out.1.le kk (by have := EL.out.2.1; omega)
          have hki1 := HO.out.1.le (kk + 1) (by have := EL.out.2.1; omega)
          have hup := HO.out.1.up kk (by have := EL.out.2.1; omega)
          obtain ⟨pA, epA⟩ : ∃ pA : Nat, C.getD kk 0 = (pA : Int) := ⟨(C.getD kk 0).toNat, by omega⟩
          obtain ⟨pB, epB⟩ : ∃ pB : Nat, C.getD (kk + 1) 0 = (pB : Int) := ⟨(C.getD (kk + 1) 0).toNat, by omega⟩
          have cAt : ∀ wx : World, Below wl.heap.size wl wx → wx.cell? ⟨gc, kk, none⟩ = some (.int .i64 (pA : Int)) ∧ wx.cell? ⟨gc, kk + 1, none⟩ = some (.int .i64 (pB : Int)) := fun wx hx => by
            rw [hx.cell (p := ⟨gc, kk, none⟩) hg1, hx.cell (p := ⟨gc, kk + 1, none⟩) hg1, HC.out.1 kk (by omega), HC.out.1 (kk + 1) (by omega), epA, epB]
            exact ⟨rfl, rfl⟩
          have hXN : (txP x0).length = N := HT.out.2.2.2.1
          obtain ⟨bt, ot, ct, evt, hbt, hct⟩ := HL.out.2.2.1.at (by omega)
          rw [hXN] at evt
          cases evt
          have hct2 : N ≤ ct2 ∧ ct2 ≤ 9223372036854775807 := by
            rcases HL.out.2.2.1 with ⟨e, _⟩ | ⟨b', off', cap, e, _, hc, _⟩
            · rw [e] at hXN; simp at hXN; omega
            · cases e; rw [hXN] at hc; exact ⟨hc.1, Nat.le_trans hc.2 (by decide)⟩
          have hpB : pB ≤ N := by omega
          have hpAB : pA < pB := by omega
          have hp40 : pB ≤ pA + 40 := by omega
          have hncp : ¬ ct2 = pA := by omega
          have hpc1 : pB ≤ ct2 := by omega
          have hpc2 : pA ≤ pB := by omega
          have RT : ∀ wx : World, Below wl.heap.size wl wx → Row wx .u8 (.slice (some ⟨bt, ot + pA, none⟩) (pB - pA) (ct2 - pA)) (pcO C (txP x0) kk).f3 := fun wx hx => by
            have r := row_cutP (HL.out.2.2.1.below hx) hXN pA (pB - pA) (by omega)
            have e : (pcO C (txP x0) kk).f3 = ((txP x0).drop pA).take (pB - pA) := by
              show ((txP x0).drop (C.getD kk 0).toNat).take ((C.getD (kk + 1) 0).toNat - (C.getD kk 0).toNat) = _
              rw [epA, epB]; rfl
            rw [e]; exact r
          have hD : (pcO C (txP x0) kk).f3.length = pB - pA := by
            show (((txP x0).drop (C.getD kk 0).toNat).take ((C.getD (kk + 1) 0).toNat - (C.getD kk 0).toNat)).length = _
            rw [epA, epB]
            simp only [List.length_take, List.length_drop, Int.toNat_natCast]
            omega
          have CP := copiedP _ _ wc.drew (RT wc.drew (below_drewN BC 1)) (by omega)
          have c1 := (cAt wc.drew (below_drewN BC 1)).1
          have c2 := (cAt wc.drew (below_drewN BC 1)).2
          have HW : Hid _ := And.intro CP (And.intro BC (And.intro KC (And.intro cAt (And.intro hD (And.intro epA EL.out.2.1)))))
          clear CP BC KC cAt hD epA epB RT hwc hki hki1 hup hXN hbt hct
          go_upto_region 19 with fail
          go_cut [9] from 67 to 132 (fun ov wx => ∃ U zs, OpK wx wl.heap.size ov (R ++ [pcO C (txP x0) kk]) U zs ∧ Below wl.heap.size wl wx)
          case first =>
            have hw1 : IntKind.i64.wrap ((kk : Int) + 1) = (kk : Int) + 1 := by rw [IntKind.wrap_i64]; omega
            have hw2 : IntKind.i64.wrap ((i : Int) - 1) = (i : Int) - 1 := by rw [IntKind.wrap_i64]; omega
            have hx1 : (kk : Int) < (i : Int) + 1 := by omega
            have hx2 : (kk : Int) + 1 < (i : Int) + 1 := by omega
            have hx3 : (0 : Int) ≤ (kk : Int) + 1 := by omega
            go_region_law (first
              | (go_simp; go_at_call 5; refine HW.out.1.mono ?_; rintro e w5 ⟨r5, rfl, o5, b5⟩; obtain ⟨ar, cr, er⟩ := (row_of_owns o5).form; rw [HW.out.2.2.2.2.1] at er; subst er; have c5 := (HW.out.2.2.2.1 w5 ((below_drewN HW.out.2.1 1).trans (b5.mono (below_drewN HW.out.2.1 1).size))).1; have H5 : Hid _ := And.intro o5 b5; clear o5 b5)
              | (refine step_append_op rfl (.tmp 96) (.tmp 118) rfl wl.heap.size (.slice ao9 R.length co9) R.length zs rfl (owns_below (owns_below HW.out.2.2.1.ow (below_drewN (Below.refl _ _) 1)) (H5.out.2.trans ((Below.refl _ _).alloc (Nat.le_refl _) _ |>.mono H5.out.2.size))) w5.heap.size (.int .i64 1) (.int .i64 (pA : Int)) (.int .i64 0) (.slice ar (pB - pA) cr) (.bool _) ⟨rfl, rfl, rfl, rfl, rfl⟩ rfl (heap_alloc_new w5 _) ?_ ?_ ?_; (have := HX.out.2.1; omega); (have h1 := HW.out.2.1.size; have h2 := H5.out.2.size; have h3 : wc.drew.heap.size = wc.heap.size := rfl; simp; omega); intro v6 w6 o6 g6))
            all_goals
              have HR : Hid _ := OpK.piece HW.out.2.2.1 HW.out.2.1 (Nat.le_refl _) HW.out.2.2.2.2.2.1 HW.out.2.2.2.2.2.2 hkk H5.out.1 H5.out.2 o6 g6
              clear o6 g6
              go_wp2_with fail
              go_meet
              exact HR.out
          case rest =>
          obtain ⟨U2, zs2, K2, b2⟩ := hcut
          clear HW c1 c2
          rename World => wd
          obtain ⟨ao8, co8, ev8⟩ := K2.brow.form
          rw [List.length_append, List.length_singleton] at ev8
          subst ev8
          have A4x := HL.out.2.2.2.2.1 j wd (by omega) b2
          have h3b := atN_lt x1 j 3 (by omega)
          obtain ⟨b3, eb3⟩ : ∃ b3, b3 = atN x1 j 3 := ⟨_, rfl⟩
          rw [← eb3] at A4x h3b
          have K2' : OpK wd wl.heap.size (.slice ao8 (R ++ [pcO C (txP x0) kk]).length co8) (R ++ [pcO C (txP x0) kk]) U2 zs2 := by rw [List.length_append, List.length_singleton]; exact K2
          have HY : Hid _ := And.intro A4x (And.intro K2' (And.intro b2 True.intro))
          clear A4x K2 K2' b2 eb3
          by_cases h30 : b3 = 0
          · subst h30
            have A5x : ∀ wx, Below wl.heap.size wl wx → Calls Tryd.prog 4 #[.slice a1 m1 c1, .int .i64 ((j : Int) + 1), .int .i64 90] wx fun e w' => e = .returned (.int .i64 (atN x1 (j + 1) 90 : Int)) ∧ ∃ m, w' = wx.drewN m := fun wx hx => HL.out.2.2.2.2.2 (j + 1) wx (by omega) hx
            have h9b := atN_lt x1 (j + 1) 90 (by omega)
            obtain ⟨b9, eb9⟩ : ∃ b9, b9 = atN x1 (j + 1) 90 := ⟨_, rfl⟩
            rw [← eb9] at A5x h9b
            have HZ : Hid _ := And.intro A5x True.intro
            clear A5x eb9
            go_wp2_with (first
              | (go_at_call 4; (fail_if_success (have hyy := D1)); refine HY.out.1.mono ?_; rintro e w7 ⟨rfl, hx7⟩; have D1 : Hid (Below wl.heap.size wl w7 ∧ OpK w7 wl.heap.size (.slice ao8 (R ++ [pcO C (txP x0) kk]).length co8) (R ++ [pcO C (txP x0) kk]) U2 zs2) := (by obtain ⟨m, rfl⟩ := hx7; exact ⟨below_drewN HY.out.2.2.1 m, HY.out.2.1.below (below_drewN (Below.refl _ _) m)⟩); clear hx7)
              | (go_at_call 4; refine (HZ.out.1 w7 D1.out.1).mono ?_; rintro e w8 ⟨rfl, hx8⟩; have D2 : Hid (Below wl.heap.size wl w8 ∧ OpK w8 wl.heap.size (.slice ao8 (R ++ [pcO C (txP x0) kk]).length co8) (R ++ [pcO C (txP x0) kk]) U2 zs2) := (by obtain ⟨m, rfl⟩ := hx8; exact ⟨below_drewN D1.out.1 m, D1.out.2.below (below_drewN (Below.refl _ _) m)⟩); clear hx8)
              | (at_builtin; refine wpList_append_op rfl (.tmp 124) (.tmp 131) rfl wl.heap.size (.slice ao8 (R.length + 1) co8) (R ++ [pcO C (txP x0) kk]).length zs2 rfl (by have h := (D2.out.2.below ((Below.refl _ _).alloc (Nat.le_refl _) (.cells #[.int .i64 3, .int .i64 0, .int .i64 (1 + (b9 : Int)), .slice none 0 0, .bool false] 28))).ow; rw [List.length_append, List.length_singleton] at h ⊢; exact h) w8.heap.size (.int .i64 3) (.int .i64 0) (.int .i64 (1 + (b9 : Int))) (.slice none 0 0) (.bool false) ⟨rfl, rfl, rfl, rfl, rfl⟩ rfl (heap_alloc_new w8 _) ?_ ?_ ?_; (have := HX.out.2.1; rw [List.length_append, List.length_singleton]; omega); (have h1 := D2.out.1.size; simp; omega); intro v6 w6 o6 g6))
            have HR : Hid _ := OpK.readP D2.out.2 D2.out.1 (Nat.le_refl _) o6 (by rw [List.length_append, List.length_singleton]; exact g6)
            clear o6 g6
            go_roundg (i + i / 2 - (j + 1))
            case measure => (have := HX.out.2.2.2.2; have := EHF.out.1; omega)
            case rel =>
              obtain ⟨U3, zs3, K3, bb3⟩ := HR.out
              have hp := HX.out.1.piece hi0
              rw [← EK.out.2] at hp
              exact ⟨(R ++ [pcO C (txP x0) kk]) ++ [rdO (1 + (b9 : Int))], j + 1, U3, zs3, by have := EHF.out.1; omega, rfl, by go_num, hp.read _ (by omega), by have := HX.out.2.1; simp; omega, K3, bb3⟩
          · have h30' : ((b3 : Int) == 0) = false := by rw [beq_eq_false_iff_ne]; omega
            go_wp2_with (go_at_call 4; refine HY.out.1.mono ?_; rintro e w7 ⟨rfl, hx7⟩; have D1 : Hid (Below wl.heap.size wl w7 ∧ OpK w7 wl.heap.size (.slice ao8 (R ++ [pcO C (txP x0) kk]).length co8) (R ++ [pcO C (txP x0) kk]) U2 zs2) := (by obtain ⟨m, rfl⟩ := hx7; exact ⟨below_drewN HY.out.2.2.1 m, HY.out.2.1.below (below_drewN (Below.refl _ _) m)⟩); clear hx7)
            go_roundg (i + i / 2 - (j + 1))
            case measure => (have := HX.out.2.2.2.2; have := EHF.out.1; omega)
            case rel =>
              have hp := HX.out.1.piece hi0
              rw [← EK.out.2] at hp
              exact ⟨R ++ [pcO C (txP x0) kk], j + 1, U2, zs2, by have := EHF.out.1; omega, rfl, by go_num, hp, by have := HX.out.2.1; simp; omega, (by have h := D1.out.2; rw [List.length_append, List.length_singleton] at h; exact h), D1.out.1⟩
        · have K9 : OpK wr wl.heap.size (.slice ao9 R.length co9) R U zs := HX.out.2.2.1
          have B9 := HX.out.2.2.2.1
          have hRb : R.length ≤ 2000 := by have := HX.out.2.1; omega
          have OW := (K9.below ((Below.refl _ _).alloc (Nat.le_refl _) (.cells #[.int .i64 3, .int .i64 0, .int .i64 4611686018427387903, .slice none 0 0, .bool false] 28))).ow
          have H9 : Hid _ := And.intro K9 (And.intro B9 (And.intro OW True.intro))
          have hsz9 := B9.size
          clear K9 B9 OW
          by_cases h4 : 400 < R.length + 1
          · have h4' : (400 : Int) < (R.length : Int) + 1 := by omega
            go_wp2_with (at_builtin; refine wpList_append_op rfl (.tmp 133) (.tmp 135) rfl wl.heap.size (.slice ao9 R.length co9) R.length zs rfl H9.out.2.2.1 wr.heap.size (.int .i64 3) (.int .i64 0) (.int .i64 4611686018427387903) (.slice none 0 0) (.bool false) ⟨rfl, rfl, rfl, rfl, rfl⟩ rfl (heap_alloc_new wr _) ?_ ?_ ?_; (omega); (simp; omega); intro v6 w6 o6 g6; obtain ⟨U3, zs3, K3, bb3⟩ := OpK.readP H9.out.1 H9.out.2.1 (Nat.le_refl _) o6 g6; obtain ⟨ao7, co7, ev7⟩ := K3.brow.form; rw [List.length_append, List.length_singleton] at ev7; subst ev7; have HR : Hid _ := And.intro K3 bb3; clear K3 bb3 o6 g6)
            go_ret
            exact ⟨rfl, HL.out.2.1.trans (HR.out.2.mono HL.out.2.1.size)⟩
          · have h4' : ¬ (400 : Int) < (R.length : Int) + 1 := by omega
            go_upto_region 25 with (at_builtin; refine wpList_append_op rfl (.tmp 133) (.tmp 135) rfl wl.heap.size (.slice ao9 R.length co9) R.length zs rfl H9.out.2.2.1 wr.heap.size (.int .i64 3) (.int .i64 0) (.int .i64 4611686018427387903) (.slice none 0 0) (.bool false) ⟨rfl, rfl, rfl, rfl, rfl⟩ rfl (heap_alloc_new wr _) ?_ ?_ ?_; (omega); (simp; omega); intro v6 w6 o6 g6; obtain ⟨U3, zs3, K3, bb3⟩ := OpK.readP H9.out.1 H9.out.2.1 (Nat.le_refl _) o6 g6; obtain ⟨ao7, co7, ev7⟩ := K3.brow.form; rw [List.length_append, List.length_singleton] at ev7; subst ev7; have HR : Hid _ := And.intro K3 bb3; clear K3 bb3 o6 g6)
            have hXN : (txP x0).length = N := HT.out.2.2.2.1
            have hsg : 0 < w.heap.size := cell_ltP HH.out.2.2.c0
            have BW6 : Below w.heap.size w w6 := HL.out.2.1.trans (HR.out.2.mono HL.out.2.1.size)
            have ht6 : TabF w6 := HH.out.2.2.below BW6 hsg
            have hall : ∀ q, q < (R ++ [rdO 4611686018427387903]).length → ((R ++ [rdO 4611686018427387903]).getD q default).d.length ≤ 140737488355328 ∧ ((R ++ [rdO 4611686018427387903]).getD q default).f1 ≤ 9223372036854775807 := fun q hq => by
              rcases (HX.out.1.read 4611686018427387903 (by omega)).each q hq with ⟨k', hk', e'⟩ | ⟨r', hr', e'⟩
              · rw [e']
                have := HO.out.1.le k' (by have := EL.out.2.1; omega)
                refine ⟨?_, by show C.getD k' 0 ≤ _; omega⟩
                show (((txP x0).drop _).take _).length ≤ _
                simp only [List.length_take, List.length_drop]; omega
              · rw [e']
                exact ⟨by show ([] : List Int).length ≤ _; simp, by show (0 : Int) ≤ _; omega⟩
            have I6 := implRR 1000 _ (R ++ [rdO 4611686018427387903]) w6 ht6 (Nat.lt_of_lt_of_le hsg BW6.size) HR.out.1.brow (by simp; omega) (fun q hq => (hall q hq).1) (fun q hq => (hall q hq).2)
            obtain ⟨f, t, hf0, ht0, hfN, hPO, hE, hS⟩ := rp_main C (txP x0) N i a3 j R hXN hN1 (by omega) HO.out.1 (by have := EL.out.2.1; omega) (by rw [← EL.out.1]) (by omega) HX.out.1 (by omega)
            have e1 : rrC 1000 (R ++ [rdO 4611686018427387903]) = 0 := by unfold rrC; rw [if_neg (by simp; omega), if_neg (by omega)]
            have e2 : rrY 1000 (R ++ [rdO 4611686018427387903]) = (mrun 1000 (R ++ [rdO 4611686018427387903]) (R.length + 1)).2 := by unfold rrY; rw [if_neg (by simp; omega), List.length_append, List.length_singleton]; rfl
            have hYl : (mrun 1000 (R ++ [rdO 4611686018427387903]) (R.length + 1)).2.length = R.length + 1 := mrun_length _ _ _
            rw [e1, e2] at I6
            obtain ⟨Y, eY⟩ : ∃ Y, Y = (mrun 1000 (R ++ [rdO 4611686018427387903]) (R.length + 1)).2 := ⟨_, rfl⟩
            rw [← eY] at I6 hPO hE hS hYl
            have HI : Hid _ := And.intro I6 (And.intro BW6 (And.intro hPO (And.intro hE (And.intro hS (And.intro hfN (And.intro hYl (And.intro hXN (And.intro hf0 ht0))))))))
            clear I6 BW6 hPO hE hS hfN hYl eY e1 e2 hall ht6 hsg hXN hf0 ht0
            go_wp2_with (go_at_call 6; refine HI.out.1.mono ?_; rintro e w7 ⟨r7, rfl, o7, b7⟩; obtain ⟨bg, og, cg, ev, hbg, UU, hcs, hrw⟩ := o7.row.at' (by have := HI.out.2.2.2.2.2.2.1; omega); rw [HI.out.2.2.2.2.2.2.1] at ev hcs hrw; subst ev; have H7 : Hid _ := And.intro b7 (And.intro hcs hrw); clear o7 b7 hcs hrw)
            have B7 : Below w.heap.size w w7 := HI.out.2.1.trans (H7.out.1.mono HI.out.2.1.size)
            have r7 : Row w7 .u8 (.slice at2 N ct2) (txP x0) := HL.out.2.2.1.below (HR.out.2.trans (H7.out.1.mono HR.out.2.size))
            have H8 : Hid _ := And.intro B7 r7
            clear B7 r7
            go_loopg [14, 15, 16] (R.length + 1) (fun q rv tv iv wx => ∃ (s : Nat) (tt : Int), s ≤ R.length + 1 ∧ q = R.length + 1 - s ∧ iv = .int .i64 (s : Int) ∧ tv = .int .i64 tt ∧ tt ≤ t s ∧ f s ≤ N ∧ wx.ownsRow w7.heap.size 5 1 rv (f s) (((txP x0).take (f s)).map (Value.int .u8)) ∧ Below w7.heap.size w7 wx)
            case atStart =>
              refine ⟨0, 0, by omega, by omega, rfl, rfl, HI.out.2.2.2.2.2.2.2.2.2, by rw [HI.out.2.2.2.2.2.2.2.2.1]; omega, ?_, (Below.refl _ _).alloc (Nat.le_refl _) _⟩
              rw [HI.out.2.2.2.2.2.2.2.2.1]
              exact World.ownsRow_lit w7 #[] 0 (Nat.le_refl _) (by decide) rfl
            case round =>
              obtain ⟨s, tt, hs, hq, rfl, rfl, htt, hfs, hrd, hb7⟩ := hrel
              rename World => wy
              have hct2 : N ≤ ct2 := by
                rcases H8.out.2 with ⟨e, _⟩ | ⟨b', off', cap, e, _, hc, _⟩
                · have := HI.out.2.2.2.2.2.2.2.1; rw [e] at this; simp at this; omega
                · cases e; have h1 := HI.out.2.2.2.2.2.2.2.1; rw [h1] at hc; exact hc.1
              obtain ⟨ar, cr, evr⟩ := (row_of_owns hrd).form
              rw [List.length_take, HI.out.2.2.2.2.2.2.2.1, Nat.min_eq_left hfs] at evr
              subst evr
              have cAt : ∀ q, q < R.length + 1 → ∀ g, g < 5 → wy.cell? ⟨bg, og + (q * 5 + g), none⟩ = ((Y.getD q default).c (UU q))[g]? := fun q hq g hg => by
                rw [hb7.cell (p := ⟨bg, og + (q * 5 + g), none⟩) hbg]; exact H7.out.2.1 q hq g hg
              by_cases hlt : s < R.length + 1
              · have P := HI.out.2.2.1 s hlt
                have hcs := cAt s hlt
                obtain ⟨o, eo⟩ : ∃ o, o = Y.getD s default := ⟨_, rfl⟩
                rw [← eo] at P hcs
                have hru := (H7.out.2.2 s hlt).below hb7
                rw [← eo] at hru
                obtain ⟨au, cu, evu⟩ := hru.form
                rw [evu] at hcs hru
                have q0 : wy.cell? ⟨bg, og + s * 5, none⟩ = some (.int .i64 0) := by have h := hcs 0 (by omega); rw [← P.code]; exact h
                have q2 : wy.cell? ⟨bg, og + s * 5 + 2, none⟩ = some (.int .i64 (t (s + 1))) := by have h := hcs 2 (by omega); rw [← P.tol]; exact h
                have q3 : wy.cell? ⟨bg, og + s * 5 + 3, none⟩ = some (.slice au o.d.length cu) := by have h := hcs 3 (by omega); exact h
                have q4 : wy.cell? ⟨bg, og + s * 5 + 4, none⟩ = some (.bool o.f4) := by have h := hcs 4 (by omega); exact h
                have hlen : f s + o.f3.length = f (s + 1) := by
                  have h := congrArg List.length P.rd
                  have hN := HI.out.2.2.2.2.2.2.2.1
                  have h1 := P.top
                  rw [List.length_append, List.length_take, List.length_take] at h
                  omega
                have htop : f (s + 1) ≤ N := by have h1 := P.top; rw [HI.out.2.2.2.2.2.2.2.1] at h1; exact h1
                have htold : ¬ t (s + 1) < tt := by have h1 := P.told; omega
                obtain ⟨f1, ef1⟩ : ∃ f1, f1 = f (s + 1) := ⟨_, rfl⟩
                obtain ⟨t1, et1⟩ : ∃ t1, t1 = t (s + 1) := ⟨_, rfl⟩
                obtain ⟨f0, ef0⟩ : ∃ f0, f0 = f s := ⟨_, rfl⟩
                have hR8 : ∀ wx, Below w7.heap.size w7 wx → Row wx .u8 (.slice at2 f1 ct2) ((txP x0).take f1) := fun wx hx => row_pre (by have h := H8.out.2.below hx; rw [← HI.out.2.2.2.2.2.2.2.1] at h; exact h) (by rw [HI.out.2.2.2.2.2.2.2.1]; omega)
                have hE4 : o.f4 = true → f1 = N := fun h => by rw [ef1, P.e h, HI.out.2.2.2.2.2.2.2.1]
                have hrd1 : (txP x0).take f1 = (txP x0).take f0 ++ o.f3 := by rw [ef1, ef0]; exact P.rd
                rw [← ef1] at hlen htop
                rw [← et1] at q2 htold
                rw [← ef0] at hrd hlen hfs ⊢
                have hfl : f1 ≤ ct2 := by omega
                have ht1 : tt ≤ t1 := by omega
                obtain ⟨dl, edl⟩ : ∃ dl, dl = o.d.length := ⟨_, rfl⟩
                rw [← edl] at q3
                rw [← edl] at hru
                have hlen' : f0 + dl = f1 := by rw [edl]; exact hlen
                have HP : Hid _ := And.intro hrd (And.intro hb7 (And.intro hru (And.intro hR8 (And.intro hrd1 (And.intro ef1 (And.intro et1 (And.intro ef0 (And.intro hq (And.intro hlen' (And.intro hlen edl))))))))))
                have q4A : ∀ wx, Below w7.heap.size w7 wx → wx.cell? ⟨bg, og + s * 5 + 4, none⟩ = some (.bool o.f4) := fun wx hx => by
                  have h := H7.out.2.1 s hlt 4 (by omega)
                  rw [← eo] at h
                  have h2 := (hx.cell (p := ⟨bg, og + (s * 5 + 4), none⟩) hbg).trans h
                  exact h2
                clear hrd hb7 hru hR8 hrd1 ef1 et1 ef0 hq hlen' hlen edl P hcs evu htt eo cAt
                have hf1N : ¬ (N : Int) < (f1 : Int) := by omega
                obtain ⟨E, eE⟩ : ∃ E, E = o.f4 := ⟨_, rfl⟩
                rw [← eE] at q4
                rw [← eE] at q4A
                have hEN : E = true → ((f1 : Int) != (N : Int)) = false := fun h => by rw [hE4 (by rw [← eE]; exact h)]; simp
                clear hE4
                have HEN : Hid _ := And.intro hEN q4A
                clear hEN eE q4A
                go_upto_region 37 with (at_builtin; refine wpList_append_row rfl (.tmp 181) (.tmp 186) rfl w7.heap.size (.slice ar f0 cr) f0 ((txP x0).take f0) rfl HP.out.1 (.slice au dl cu) o.f3 rfl HP.out.2.2.1 ?_ HP.out.2.1.size ?_; (have := HP.out.2.2.2.2.2.2.2.2.2.2.1; omega); intro v8 w8 o8 g8; rw [← HP.out.2.2.2.2.1, HP.out.2.2.2.2.2.2.2.2.2.2.1] at o8; obtain ⟨a8, c8, ev8⟩ := (row_of_owns o8).form; rw [List.length_take, HI.out.2.2.2.2.2.2.2.1, Nat.min_eq_left htop] at ev8; subst ev8; have D8 : Hid _ := And.intro o8 (HP.out.2.1.grown g8 HP.out.2.1.size (fun tq htq => (HP.out.1.lt tq htq).1)); clear o8 g8)
                have SM := sameP _ _ ((txP x0).take f1) w8 (row_of_owns D8.out.1) (HP.out.2.2.2.1 w8 D8.out.2)
                have HS : Hid _ := And.intro SM True.intro
                have q4' := HEN.out.2 w8 D8.out.2
                clear SM q0 q2 q3 q4
                have hsi : (s : Int) < (R.length : Int) + 1 := by omega
                cases E with
                | true =>
                  have hne := HEN.out.1 rfl
                  go_wp2_with (go_at_call 7; refine HS.out.1.mono ?_; rintro e w9 ⟨rfl, hw9⟩; subst w9)
                  go_roundg (R.length + 1 - (s + 1))
                  case measure => (have := HP.out.2.2.2.2.2.2.2.2.1; omega)
                  case rel => exact ⟨s + 1, t1, by omega, rfl, by go_num, rfl, by rw [HP.out.2.2.2.2.2.2.1]; exact Int.le_refl _, by rw [← HP.out.2.2.2.2.2.1]; exact htop, by rw [← HP.out.2.2.2.2.2.1]; exact D8.out.1, D8.out.2⟩
                | false =>
                  go_wp2_with (go_at_call 7; refine HS.out.1.mono ?_; rintro e w9 ⟨rfl, hw9⟩; subst w9)
                  go_roundg (R.length + 1 - (s + 1))
                  case measure => (have := HP.out.2.2.2.2.2.2.2.2.1; omega)
                  case rel => exact ⟨s + 1, t1, by omega, rfl, by go_num, rfl, by rw [HP.out.2.2.2.2.2.2.1]; exact Int.le_refl _, by rw [← HP.out.2.2.2.2.2.1]; exact htop, by rw [← HP.out.2.2.2.2.2.1]; exact D8.out.1, D8.out.2⟩
              · have hse : s = R.length + 1 := by omega
                have hfsN : f s = N := by rw [hse]; exact HI.out.2.2.2.2.2.1
                have hcs := cAt R.length (by omega)
                have hE := HI.out.2.2.2.1
                have hS := HI.out.2.2.2.2.1
                obtain ⟨o, eo⟩ : ∃ o, o = Y.getD R.length default := ⟨_, rfl⟩
                rw [← eo] at hcs hE hS
                obtain ⟨au, cu, evu⟩ := (H7.out.2.2 R.length (by omega)).form
                rw [← eo] at evu
                rw [evu] at hcs
                obtain ⟨y0, ey0⟩ : ∃ y, y = o.f0 := ⟨_, rfl⟩
                obtain ⟨y2, ey2⟩ : ∃ y, y = o.f2 := ⟨_, rfl⟩
                obtain ⟨dl, edl⟩ : ∃ dl, dl = o.d.length := ⟨_, rfl⟩
                have q0 : wy.cell? ⟨bg, og + R.length * 5, none⟩ = some (.int .i64 y0) := by have h := hcs 0 (by omega); rw [ey0]; exact h
                have q1 : wy.cell? ⟨bg, og + R.length * 5 + 1, none⟩ = some (.int .i64 3) := by have h := hcs 1 (by omega); rw [← hS]; exact h
                have q2 : wy.cell? ⟨bg, og + R.length * 5 + 2, none⟩ = some (.int .i64 y2) := by have h := hcs 2 (by omega); rw [ey2]; exact h
                have q3 : wy.cell? ⟨bg, og + R.length * 5 + 3, none⟩ = some (.slice au dl cu) := by have h := hcs 3 (by omega); rw [edl]; exact h
                have q4 : wy.cell? ⟨bg, og + R.length * 5 + 4, none⟩ = some (.bool true) := by have h := hcs 4 (by omega); rw [← hE]; exact h
                have HP : Hid _ := And.intro hrd hb7
                rw [hfsN]
                clear hcs hE hS evu ey0 ey2 edl eo cAt hrd hb7 hfsN htt hq
                go_wp2_with fail
                go_ret
                exact ⟨rfl, (H8.out.1.trans (HP.out.2.mono H8.out.1.size)).alloc (Nat.le_trans H8.out.1.size HP.out.2.size) _⟩
end Go.Proofs.YtgifbpongpbjaaaDoor
