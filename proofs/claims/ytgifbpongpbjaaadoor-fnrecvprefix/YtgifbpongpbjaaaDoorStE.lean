import Derived.Test.YtgifbpongpbjaaaDoorStD
namespace Go.Proofs.YtgifbpongpbjaaaDoor
open Go.RowKit
set_option linter.unusedVariables false

/-- keep of no byte. -/
theorem keep0 (g c win st first came off : Nat) (av : Option Addr) (dc gr : Nat) (fin told : Int) (w : World) (hb : rcB w g c win st first came gr fin told) (hgc : g ≠ c) (L : List (Bool × Int)) (hr : rgB w c L) (ho : off ≤ 1000000) (hgr : gr ≤ 1000000) :
    Calls Tryd.prog 16 #[.pointer (some ⟨g, 0, none⟩), .int .i64 (off : Int), .slice av 0 dc] w fun e w' => e = .returned (.tuple #[]) ∧ rcB w' g c win st first came (max gr off : Nat) fin told ∧ rgB w' c L ∧ Chg (K2 g c) w w' := by
  have c5 : w.cell? ⟨g, 5, none⟩ = some (.int .i64 (gr : Int)) := (bk_cell hb 5).trans rfl
  have f5 := bk_free hb 5
  have H2 : Hid _ := And.intro hb (And.intro hr (chg_of_eq (S := K2 g c) w))
  clear hb hr
  go_enter Tryd.func16, Tryd.ntmps16
  go_wp2
  refine wp_loop_rounds 1 ?_
  rw [rounds_succ]
  go_wp2_with fail
  · rename_i h
    go_end0
    refine ⟨rfl, ?_, (bk_other (Ne.symm hgc) 5 _).trans H2.out.2.1, H2.out.2.2.set' g 5 _ (Or.inl rfl)⟩
    have e : ((max gr off : Nat) : Int) = (off : Int) := by omega
    rw [e]
    exact bk_set H2.out.1 5 _
  · rename_i h
    go_end0
    refine ⟨rfl, ?_, (bk_other (Ne.symm hgc) 5 _).trans H2.out.2.1, H2.out.2.2.set' g 5 _ (Or.inl rfl)⟩
    have e : ((max gr off : Nat) : Int) = (gr : Int) := by omega
    rw [e]
    exact bk_set H2.out.1 5 _

end Go.Proofs.YtgifbpongpbjaaaDoor
