import Derived.Test.YtohooehbjbhhhaaDoorRhH
import Derived.Test.YtohooehbjbhhhaaDoorCoI
import Derived.Laws.Rows
namespace Go.Proofs.YtohooehbjbhhhaaDoor
open Go.RowKit
set_option linter.unusedVariables false

theorem results_row_tmp2R {P : Program} {fn : Func} {p q r : Tmp} {ty : TypeId} (h : fn.results = #[.cell p ty, .tmp q, .tmp r]) (tmps : Array Value) (w : World) (g : Nat) (t : TypeId) (cs : Array Value) (fr : Nat × Nat) (d : TypeDesc) (u v : Value)
    (hp : tmps.getD p undef = .pointer (some ⟨g, 0, none⟩)) (hq : tmps.getD q undef = u) (hr : tmps.getD r undef = v) (hg : w.heap[g]? = some (.cells cs t fr))
    (hu : P.underlying ty = some d) (hd : (match d with | .struct _ | .array _ _ => true | _ => false) = true) (hi : (P.info? ty).map (·.size) = some cs.size) :
    (results fn tmps).run P w = .ok (.tuple #[.agg cs, u, v]) w := by
  have hp' : tmps[p]?.getD undef = .pointer (some ⟨g, 0, none⟩) := by simpa using hp
  have hq' : tmps[q]?.getD undef = u := by simpa using hq
  have hr' : tmps[r]?.getD undef = v := by simpa using hr
  simp [results, h, hp', hq', hr', asAddr, run_loadVar_row w g t ty cs fr d hg hu hd hi]
theorem newAtR (w : World) (o : Obj) (k : Nat) (h : w.heap.size = k) : (w.alloc o).heap[k]? = some o := by subst h; exact heap_alloc_new w o
theorem six_blocksR (w : World) (o0 o1 o2 o3 o4 o5 : Obj) :
    ((((((w.alloc o0).alloc o1).alloc o2).alloc o3).alloc o4).alloc o5).heap[w.heap.size]? = some o0 ∧ ((((((w.alloc o0).alloc o1).alloc o2).alloc o3).alloc o4).alloc o5).heap[w.heap.size + 1]? = some o1 ∧
    ((((((w.alloc o0).alloc o1).alloc o2).alloc o3).alloc o4).alloc o5).heap[w.heap.size + 2]? = some o2 ∧ ((((((w.alloc o0).alloc o1).alloc o2).alloc o3).alloc o4).alloc o5).heap[w.heap.size + 3]? = some o3 ∧
    ((((((w.alloc o0).alloc o1).alloc o2).alloc o3).alloc o4).alloc o5).heap[w.heap.size + 4]? = some o4 ∧ ((((((w.alloc o0).alloc o1).alloc o2).alloc o3).alloc o4).alloc o5).heap[w.heap.size + 5]? = some o5 := by
  refine ⟨?_, ?_, ?_, ?_, ?_, ?_⟩
  · rw [Below.heap_alloc _ _ _ (by first | (simp; done) | (simp; omega)), Below.heap_alloc _ _ _ (by first | (simp; done) | (simp; omega)), Below.heap_alloc _ _ _ (by first | (simp; done) | (simp; omega)), Below.heap_alloc _ _ _ (by first | (simp; done) | (simp; omega)), Below.heap_alloc _ _ _ (by first | (simp; done) | (simp; omega))]; exact newAtR _ _ _ (by simp)
  · rw [Below.heap_alloc _ _ _ (by first | (simp; done) | (simp; omega)), Below.heap_alloc _ _ _ (by first | (simp; done) | (simp; omega)), Below.heap_alloc _ _ _ (by first | (simp; done) | (simp; omega)), Below.heap_alloc _ _ _ (by first | (simp; done) | (simp; omega))]; exact newAtR _ _ _ (by simp)
  · rw [Below.heap_alloc _ _ _ (by first | (simp; done) | (simp; omega)), Below.heap_alloc _ _ _ (by first | (simp; done) | (simp; omega)), Below.heap_alloc _ _ _ (by first | (simp; done) | (simp; omega))]; exact newAtR _ _ _ (by simp)
  · rw [Below.heap_alloc _ _ _ (by first | (simp; done) | (simp; omega)), Below.heap_alloc _ _ _ (by first | (simp; done) | (simp; omega))]; exact newAtR _ _ _ (by simp)
  · rw [Below.heap_alloc _ _ _ (by first | (simp; done) | (simp; omega))]; exact newAtR _ _ _ (by simp)
  · exact newAtR _ _ _ (by simp)
theorem six_belowR (w : World) (o0 o1 o2 o3 o4 o5 : Obj) : Below w.heap.size w ((((((w.alloc o0).alloc o1).alloc o2).alloc o3).alloc o4).alloc o5) :=
  ((((((Below.refl _ _).alloc (Nat.le_refl _) _).alloc (by simp) _).alloc (by simp; omega) _).alloc (by simp; omega) _).alloc (by simp; omega) _).alloc (by simp; omega) _
theorem row_liesR {w : World} {v : Value} {xs : List Int} (h : Row w .u8 v xs) : ∃ ao cap, v = .slice ao xs.length cap ∧ (xs = [] ∨ ∃ b off, ao = some ⟨b, off, none⟩ ∧ Lies w b off xs.length cap xs) := by
  rcases h with ⟨rfl, ao, cap, rfl⟩ | ⟨b, off, cap, rfl, hlt, hcap, hc⟩
  · exact ⟨ao, cap, rfl, Or.inl rfl⟩
  · exact ⟨_, cap, rfl, Or.inr ⟨b, off, rfl, ⟨rfl, hlt, hcap.1, hcap.2, hc⟩⟩⟩
abbrev zfO : Obj := .cells #[.int .i64 0, .int .i64 0, .slice none 0 0, .slice none 0 0] 25
/-- The world in which a frame is read: the place, the answer, the frame, the place behind it. -/
abbrev rhW (w : World) (at' : Int) : World := (((w.alloc (.cells #[.int .i64 at'] 3)).alloc zfO).alloc zfO).alloc (.cells #[.int .i64 0] 3)
/-- .. and the error and the reader besides. -/
abbrev rhW6 (w : World) (at' : Int) (ao : Option Addr) (n cap : Nat) : World := ((rhW w at').alloc (.cells #[.nilIface] 44)).alloc (.cells #[.slice ao n cap, .int .i64 0] 48)
theorem rhClos (ao : Option Addr) (n cap : Nat) (at' : Int) (xs : List Int) (w : World) (ht : Tab w) (hlie : xs = [] ∨ ∃ b off, ao = some ⟨b, off, none⟩ ∧ Lies w b off n cap xs) (hlen : xs.length = n) (hB : Bytes xs) (hn : n ≤ 9223372036854775807) :
    Calls Tryd.prog 17 #[.pointer (some ⟨w.heap.size + 5, 0, none⟩), .pointer (some ⟨w.heap.size, 0, none⟩), .pointer (some ⟨w.heap.size + 2, 0, none⟩), .pointer (some ⟨w.heap.size + 3, 0, none⟩)] (rhW6 w at' ao n cap) fun e w' => Chg (S3 (w.heap.size + 5) (w.heap.size + 2) (w.heap.size + 3)) (rhW6 w at' ao n cap) w' ∧ ((∃ c, rhE xs at' = .error c ∧ e = .panicked [leftP c]) ∨
      ∃ f q, rhE xs at' = .ok (f, q) ∧ e = .returned (.tuple #[]) ∧ CloR (rhW6 w at' ao n cap).heap.size w' (w.heap.size + 2) (w.heap.size + 3) f q) := by
  obtain ⟨e0, e1, e2, e3, e4, e5⟩ := six_blocksR w (.cells #[.int .i64 at'] 3) zfO zfO (.cells #[.int .i64 0] 3) (.cells #[.nilIface] 44) (.cells #[.slice ao n cap, .int .i64 0] 48)
  have hb := six_belowR w (.cells #[.int .i64 at'] 3) zfO zfO (.cells #[.int .i64 0] 3) (.cells #[.nilIface] 44) (.cells #[.slice ao n cap, .int .i64 0] 48)
  have t1 := ht.lt
  have hT : ¬ S3 (w.heap.size + 5) (w.heap.size + 2) (w.heap.size + 3) 1 := fun h => by rcases h with h | h | h <;> omega
  by_cases hok : xs.length ≤ 65536 ∧ 0 ≤ at' ∧ at' ≤ xs.length ∧ varOK xs at'.toNat
  · obtain ⟨h1, h2, h3, hv⟩ := hok
    obtain ⟨p, rfl⟩ := Int.eq_ofNat_of_zero_le h2
    rw [Int.toNat_natCast] at hv
    rcases hlie with rfl | ⟨b, off, rfl, hl⟩
    · exact absurd hv.1 (by simp)
    have hbl := hl.lt
    have hE : rhE xs (p : Int) = rhT xs p := by unfold rhE; rw [if_neg (by omega), if_neg (by omega), Int.toNat_natCast]
    rw [hE]
    exact clo_ok (w.heap.size + 5) w.heap.size (w.heap.size + 2) (w.heap.size + 3) b off n cap p xs _ (ht.below hb t1) ((bk_cell e0 0).trans rfl) e2 e5 e3 (hl.below hb) hB (by omega) (fun h => by rcases h with h | h | h <;> omega) hT (by omega) (by omega) (by omega) hv
  · obtain ⟨c, hc, hg, hE⟩ := rh_bad xs at' hok
    refine (clo_bad (w.heap.size + 5) w.heap.size (w.heap.size + 2) (w.heap.size + 3) at' c ao n cap xs _ (ht.below hb t1) ((bk_cell e0 0).trans rfl) e2 e5 ?_ hlen hB hn hT hc hg).mono ?_
    · intro u hu
      rcases hlie with rfl | ⟨b, off, rfl, hl⟩
      · exact Or.inl ⟨rfl, _, _, by rw [← hlen]; rfl⟩
      · have hbl := hl.lt
        have := ((hl.below hb).chg hu (fun h => by rcases h with h | h | h <;> omega)).row 0 n (by omega)
        rwa [Nat.add_zero, Nat.sub_zero, List.drop_zero, List.take_of_length_le (by rw [hl.len]; exact Nat.le_refl _)] at this
    · rintro e w' ⟨rfl, hc'⟩
      exact ⟨hc', Or.inl ⟨c, hE, rfl⟩⟩
end Go.Proofs.YtohooehbjbhhhaaDoor
