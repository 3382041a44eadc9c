import Derived.Test.YtbbiinbjgognjaaDoorPkI
namespace Go.Proofs.YtbbiinbjgognjaaDoor
open Go.RowKit
set_option linter.unusedVariables false

theorem cid_spec {xs d : List Int} {p q : Nat} (h : pkCid xs p = .ok (d, q)) : q = p + 1 + d.length ∧ q ≤ xs.length := by
  unfold pkCid at h
  split at h
  · cases h
  · split at h
    · cases h
    · split at h
      · cases h
      · rename_i h1 h2 h3
        cases h
        rw [sub_len xs (p + 1) _ (by omega)]
        exact ⟨rfl, by omega⟩
theorem cid_err {xs : List Int} {p : Nat} {c : Int} (h : pkCid xs p = .error c) : c ≠ 0 := by
  unfold pkCid at h
  split at h
  · cases h; decide
  · split at h
    · cases h; decide
    · split at h
      · cases h; decide
      · cases h
theorem ver_err {xs : List Int} {p : Nat} {c : Int} (h : pkVer xs p = .error c) : c ≠ 0 := by
  unfold pkVer at h
  split at h
  · cases h; decide
  · split at h
    · cases h
    · cases h; decide
theorem ret_err {xs : List Int} {p : Nat} {c : Int} (h : pkRet xs p = .error c) : c ≠ 0 := by
  unfold pkRet at h
  split at h
  · cases h; decide
  · split at h
    · cases h; decide
    · cases h
theorem beh_err {xs : List Int} {p : Nat} {c : Int} (h : pkBeh xs p = .error c) : c ≠ 0 := by
  unfold pkBeh at h
  split at h
  · split at h
    · cases h; decide
    · split at h
      · cases h; decide
      · cases h
  · cases h; decide
theorem ini_err {xs d s : List Int} {v c : Int} {p : Nat} (h : pkIni xs v d s p = .error c) : c ≠ 0 := by
  unfold pkIni at h
  split at h
  · split at h
    · cases h; decide
    · split at h
      · cases h; decide
      · split at h
        · rename_i hb; cases h; exact beh_err hb
        · cases h
  · cases h; decide
theorem tail_err {xs d s : List Int} {f v c : Int} {p : Nat} (h : pkTail xs f v d s p = .error c) : c ≠ 0 := by
  unfold pkTail at h
  split at h
  · split at h
    · cases h; decide
    · split at h
      · rename_i hb; cases h; exact ver_err hb
      · cases h
  · split at h
    · split at h
      · rename_i hb; cases h; exact ret_err hb
      · cases h
    · split at h
      · exact ini_err h
      · split at h
        · split at h
          · rename_i hb; cases h; exact beh_err hb
          · cases h
        · cases h; decide
theorem long_err {xs : List Int} {f c : Int} (h : pkLong xs f = .error c) : c ≠ 0 := by
  unfold pkLong at h
  split at h
  · cases h; decide
  · split at h
    · rename_i hb; cases h; exact cid_err hb
    · split at h
      · rename_i hb; cases h; exact cid_err hb
      · exact tail_err h
theorem pk_err {xs : List Int} {cl c : Int} (h : pk xs cl = .error c) : c ≠ 0 := by
  unfold pk at h
  split at h
  · cases h; decide
  · split at h
    · cases h; decide
    · split at h
      · cases h; decide
      · split at h
        · cases h; decide
        · split at h
          · unfold pkShP at h
            split at h
            · rename_i hb
              cases h
              unfold pkSho at hb
              split at hb
              · cases hb; decide
              · cases hb
            · cases h
          · exact long_err h
theorem ini_form {xs d s : List Int} {v : Int} {p : Nat} {K : PK} (h : pkIni xs v d s p = .ok K) : K.f = 1 := by
  unfold pkIni at h
  split at h
  · split at h
    · cases h
    · split at h
      · cases h
      · split at h
        · cases h
        · cases h; rfl
  · cases h
theorem tail_vers {xs d s : List Int} {f v : Int} {p : Nat} {K : PK} (h : pkTail xs f v d s p = .ok K) (h5 : K.f = 5) : pkVer xs p = .ok K.vers ∧ K.d = d ∧ K.s = s := by
  unfold pkTail at h
  split at h
  · split at h
    · cases h
    · split at h
      · cases h
      · rename_i hb; cases h; exact ⟨hb, rfl, rfl⟩
  · split at h
    · split at h
      · cases h
      · cases h; simp at h5
    · split at h
      · have := ini_form h; omega
      · split at h
        · split at h
          · cases h
          · cases h; simp at h5
        · cases h
theorem pk_vers {xs : List Int} {cl : Int} {K : PK} (h : pk xs cl = .ok K) (h5 : K.f = 5) : pkVer xs (7 + K.d.length + K.s.length) = .ok K.vers ∧ 7 + K.d.length + K.s.length ≤ xs.length ∧ xs.length ≤ 65536 := by
  unfold pk at h
  split at h
  · cases h
  · rename_i h16
    split at h
    · cases h
    · split at h
      · cases h
      · split at h
        · cases h
        · split at h
          · unfold pkShP at h
            split at h
            · cases h
            · cases h; simp at h5
          · unfold pkLong at h
            split at h
            · cases h
            · split at h
              · cases h
              · rename_i d p1 hc1
                split at h
                · cases h
                · rename_i s p2 hc2
                  obtain ⟨t1, t2, t3⟩ := tail_vers h h5
                  obtain ⟨a1, a2⟩ := cid_spec hc1
                  obtain ⟨b1, b2⟩ := cid_spec hc2
                  rw [t2, t3]
                  have e : p2 = 7 + d.length + s.length := by omega
                  rw [← e]
                  exact ⟨t1, by omega, by omega⟩
end Go.Proofs.YtbbiinbjgognjaaDoor
