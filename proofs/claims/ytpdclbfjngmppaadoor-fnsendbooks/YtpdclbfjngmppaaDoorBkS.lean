import Derived.Test.YtpdclbfjngmppaaDoorBkR
import Derived.Deep.CutBlock
import Derived.Deep.LoopGhost
namespace Go.Proofs.YtpdclbfjngmppaaDoor
open Go.RowKit
set_option linter.unusedVariables false
set_option linter.unusedSimpArgs false

theorem Chg.newS {S S' : Nat → Prop} {w w1 w' : World} (h : Chg S w w1) (o : Chg S' w1 w') (hk : ∀ t, S' t → w.heap.size ≤ t) : Chg S w w' :=
  ⟨o.os.trans h.os, o.tape.trans h.tape, o.output.trans h.output, Nat.le_trans h.size o.size, fun j hj hs => (o.block j (Nat.lt_of_lt_of_le hj h.size) (fun e => by have := hk j e; omega)).trans (h.block j hj hs)⟩
abbrev so7s (c st off : Int) (vd : Value) (s f b : Bool) : Array Value := #[.int .i64 c, .int .i64 st, .int .i64 off, vd, .bool s, .bool f, .bool b]
abbrev putO (w : World) (N : Nat) (c st off : Int) (vd : Value) (s f b : Bool) : World := ((((((w.setCell ⟨N, 0, none⟩ (.int .i64 c)).setCell ⟨N, 1, none⟩ (.int .i64 st)).setCell ⟨N, 2, none⟩ (.int .i64 off)).setCell ⟨N, 3, none⟩ vd).setCell ⟨N, 4, none⟩ (.bool s)).setCell ⟨N, 5, none⟩ (.bool f)).setCell ⟨N, 6, none⟩ (.bool b)
theorem putO_blk {w : World} {N : Nat} {T : TypeId} {v0 v1 v2 v3 v4 v5 v6 : Value} (h : w.heap[N]? = some (.cells #[v0, v1, v2, v3, v4, v5, v6] T (0, 0))) (c st off : Int) (vd : Value) (s f b : Bool) : (putO w N c st off vd s f b).heap[N]? = some (.cells (so7s c st off vd s f b) T (0, 0)) := by
  have h0 : (w.setCell ⟨N, 0, none⟩ (.int .i64 c)).heap[N]? = some (.cells #[.int .i64 c, v1, v2, v3, v4, v5, v6] T (0, 0)) := bk_set h 0 _
  have h1 : ((w.setCell ⟨N, 0, none⟩ (.int .i64 c)).setCell ⟨N, 1, none⟩ (.int .i64 st)).heap[N]? = some (.cells #[.int .i64 c, .int .i64 st, v2, v3, v4, v5, v6] T (0, 0)) := bk_set h0 1 _
  have h2 : (((w.setCell ⟨N, 0, none⟩ (.int .i64 c)).setCell ⟨N, 1, none⟩ (.int .i64 st)).setCell ⟨N, 2, none⟩ (.int .i64 off)).heap[N]? = some (.cells #[.int .i64 c, .int .i64 st, .int .i64 off, v3, v4, v5, v6] T (0, 0)) := bk_set h1 2 _
  have h3 : ((((w.setCell ⟨N, 0, none⟩ (.int .i64 c)).setCell ⟨N, 1, none⟩ (.int .i64 st)).setCell ⟨N, 2, none⟩ (.int .i64 off)).setCell ⟨N, 3, none⟩ vd).heap[N]? = some (.cells #[.int .i64 c, .int .i64 st, .int .i64 off, vd, v4, v5, v6] T (0, 0)) := bk_set h2 3 _
  have h4 : (((((w.setCell ⟨N, 0, none⟩ (.int .i64 c)).setCell ⟨N, 1, none⟩ (.int .i64 st)).setCell ⟨N, 2, none⟩ (.int .i64 off)).setCell ⟨N, 3, none⟩ vd).setCell ⟨N, 4, none⟩ (.bool s)).heap[N]? = some (.cells #[.int .i64 c, .int .i64 st, .int .i64 off, vd, .bool s, v5, v6] T (0, 0)) := bk_set h3 4 _
  have h5 : ((((((w.setCell ⟨N, 0, none⟩ (.int .i64 c)).setCell ⟨N, 1, none⟩ (.int .i64 st)).setCell ⟨N, 2, none⟩ (.int .i64 off)).setCell ⟨N, 3, none⟩ vd).setCell ⟨N, 4, none⟩ (.bool s)).setCell ⟨N, 5, none⟩ (.bool f)).heap[N]? = some (.cells #[.int .i64 c, .int .i64 st, .int .i64 off, vd, .bool s, .bool f, v6] T (0, 0)) := bk_set h4 5 _
  have h6 : (((((((w.setCell ⟨N, 0, none⟩ (.int .i64 c)).setCell ⟨N, 1, none⟩ (.int .i64 st)).setCell ⟨N, 2, none⟩ (.int .i64 off)).setCell ⟨N, 3, none⟩ vd).setCell ⟨N, 4, none⟩ (.bool s)).setCell ⟨N, 5, none⟩ (.bool f)).setCell ⟨N, 6, none⟩ (.bool b)).heap[N]? = some (.cells #[.int .i64 c, .int .i64 st, .int .i64 off, vd, .bool s, .bool f, .bool b] T (0, 0)) := bk_set h5 6 _
  exact h6
theorem putO_chg (w : World) (N : Nat) (c st off : Int) (vd : Value) (s f b : Bool) : Chg (· = N) w (putO w N c st off vd s f b) :=
  have h0 : Chg (fun k => k = N) w w := chg_of_eq w
  ((((((h0.set' N 0 _ rfl).set' N 1 _ rfl).set' N 2 _ rfl).set' N 3 _ rfl).set' N 4 _ rfl).set' N 5 _ rfl).set' N 6 _ rfl
abbrev opB (k a b : Int) (u : Value) (fb : Bool) : Obj := .cells #[.int .i64 k, .int .i64 a, .int .i64 b, u, .bool fb] 32
abbrev ob1 : Obj := .cells (so7c 1 0 (.slice none 0 0) false false false) 30
/-- The world behind the three boxes of run: the operation, the answer's room, the observation. -/
abbrev W3 (w : World) (k a b : Int) (u : Value) (fb : Bool) : World := ((w.alloc (opB k a b u fb)).alloc so0).alloc ob1
theorem w3_below (w : World) (k a b : Int) (u : Value) (fb : Bool) : Below w.heap.size w (W3 w k a b u fb) := (((Below.refl _ _).alloc (Nat.le_refl _) _).alloc (by simp) _).alloc (by simp <;> omega) _
theorem w3_size (w : World) (k a b : Int) (u : Value) (fb : Bool) : (W3 w k a b u fb).heap.size = w.heap.size + 3 := by simp
/-- The two rooms. -/
structure RoomS (w wx : World) (obs : Array Value) : Prop where
  b1 : wx.heap[w.heap.size + 1]? = some so0
  b2 : wx.heap[w.heap.size + 2]? = some (.cells obs 30 (0, 0))
theorem RoomS.lt {w wx : World} {obs : Array Value} (h : RoomS w wx obs) : w.heap.size + 2 < wx.heap.size := (Array.getElem?_eq_some_iff.1 h.b2).1
theorem RoomS.chg {w wx w' : World} {obs : Array Value} {S : Nat → Prop} (h : RoomS w wx obs) (hc : Chg S wx w') (hs : ∀ k, w.heap.size ≤ k → ¬ S k) : RoomS w w' obs :=
  ⟨(hc.block _ (by have := h.lt; omega) (hs _ (by omega))).trans h.b1, (hc.block _ h.lt (hs _ (by omega))).trans h.b2⟩
theorem room_new (w : World) (k a b : Int) (u : Value) (fb : Bool) : RoomS w (W3 w k a b u fb) (so7c 1 0 (.slice none 0 0) false false false) := by
  obtain ⟨h0, h1, h2⟩ := bk_new3 w (opB k a b u fb) so0 ob1
  exact ⟨h1, h2⟩
/-- What a call leaves. -/
def LeftS (g base : Nat) (D : Nat → Prop) (N : Nat) (w' : World) (M : SS) (r : Value) : Prop := ∃ D1, PRep w' D1 g base M ∧ (∀ t, D1 t → D t ∨ (N ≤ t ∧ t < w'.heap.size)) ∧ ∀ t, r.ownBlock = some t → ¬ D1 t
theorem LeftS.of {g base N : Nat} {D : Nat → Prop} {w' : World} {M : SS} {r : Value} (h : PRep w' D g base M) (hr : ∀ t, r.ownBlock = some t → ¬ D t) : LeftS g base D N w' M r := ⟨D, h, fun t ht => Or.inl ht, hr⟩
theorem LeftS.of0 {g base N c : Nat} {D : Nat → Prop} {w' : World} {M : SS} (h : PRep w' D g base M) : LeftS g base D N w' M (.slice none 0 c) := ⟨D, h, fun t ht => Or.inl ht, fun t ht => nomatch ht⟩
theorem LeftS.c1 {g base N : Nat} {D : Nat → Prop} {w' : World} {M : SS} {r : Value} (h : LeftS g base D N w' M r) : w'.cell? ⟨g, 1, none⟩ = some (.int .i64 (M.st : Int)) := by
  obtain ⟨D1, ⟨vd, vh, hb, hA⟩, _⟩ := h
  exact (bk_cell hb 1).trans rfl
theorem LeftS.chg {g base N : Nat} {D S : Nat → Prop} {w' w2 : World} {M : SS} {r : Value} (h : LeftS g base D N w' M r) (C : Chg S w' w2) (hs : ∀ t, S t → ¬ D t ∧ t < N) : LeftS g base D N w2 M r := by
  obtain ⟨D1, h1, h2, h3⟩ := h
  exact ⟨D1, h1.chg C (fun t ht q => (h2 t ht).elim (fun z => (hs t q).1 z) (fun z => by have := (hs t q).2; omega)), fun t ht => (h2 t ht).imp id (fun z => ⟨z.1, Nat.lt_of_lt_of_le z.2 C.size⟩), h3⟩
theorem LeftS.mono {g base N N' : Nat} {D : Nat → Prop} {w' : World} {M : SS} {r : Value} (h : LeftS g base D N w' M r) (hN : N' ≤ N) : LeftS g base D N' w' M r := by
  obtain ⟨D1, h1, h2, h3⟩ := h
  exact ⟨D1, h1, fun t ht => (h2 t ht).imp id (fun z => ⟨by omega, z.2⟩), h3⟩
set_option maxRecDepth 20000 in
set_option maxHeartbeats 4000000 in
theorem sop_write (g base : Nat) (D : Nat → Prop) (a b : Int) (u : Value) (fb : Bool) (w : World) (cd st : Int) (M1 : SS) (est : (M1.st : Int) = st) (hgl : g < w.heap.size) (hlt : ∀ t, D t → t < w.heap.size) (ua : Option Addr) (un uc : Nat) (eu : u = .slice ua un uc)
    (C : Calls Tryd.prog 24 #[.pointer (some ⟨g, 0, none⟩), .slice ua un uc] (W3 w 1 a b u fb) fun e w' => e = .returned (.int .i64 cd) ∧ LeftS g base D (w.heap.size + 3) w' M1 (.slice none 0 0) ∧ Chg D (W3 w 1 a b u fb) w') :
    Calls Tryd.prog 17 #[.pointer (some ⟨g, 0, none⟩), .agg #[.int .i64 1, .int .i64 a, .int .i64 b, u, .bool fb]] w fun e w' => e = .returned (.agg (so7s cd st 0 (.slice none 0 0) false false false)) ∧ LeftS g base D (w.heap.size + 3) w' M1 (.slice none 0 0) ∧ Chg D w w' := by
  have A0 := room_new w 1 a b u fb
  have hND : ∀ k, w.heap.size ≤ k → ¬ D k := fun k hk h => by have := hlt k h; omega
  subst eu
  have H0 : Hid _ := And.intro C (And.intro A0 (And.intro hND est))
  clear C A0 hND hlt est
  go_enter Tryd.func17, Tryd.ntmps17
  go_wp2_with (go_at_call 24; refine H0.out.1.mono ?_; rintro e w1 ⟨rfl, l1, c1⟩; have A1 := H0.out.2.1.chg c1 H0.out.2.2.1; have d1 := l1.c1; rw [H0.out.2.2.2] at d1; have zc0 : w1.cell? ⟨w.heap.size + 2, 0, none⟩ = some (.int .i64 1) := (bk_cell A1.b2 0).trans rfl; have zf0 : w1.frozen? ⟨w.heap.size + 2, 0, none⟩ = false := bk_free A1.b2 0; have zc1 : w1.cell? ⟨w.heap.size + 2, 1, none⟩ = some (.int .i64 0) := (bk_cell A1.b2 1).trans rfl; have zf1 : w1.frozen? ⟨w.heap.size + 2, 1, none⟩ = false := bk_free A1.b2 1; have zc2 : w1.cell? ⟨w.heap.size + 2, 2, none⟩ = some (.int .i64 0) := (bk_cell A1.b2 2).trans rfl; have zf2 : w1.frozen? ⟨w.heap.size + 2, 2, none⟩ = false := bk_free A1.b2 2; have zc3 : w1.cell? ⟨w.heap.size + 2, 3, none⟩ = some (.slice none 0 0) := (bk_cell A1.b2 3).trans rfl; have zf3 : w1.frozen? ⟨w.heap.size + 2, 3, none⟩ = false := bk_free A1.b2 3; have zc4 : w1.cell? ⟨w.heap.size + 2, 4, none⟩ = some (.bool false) := (bk_cell A1.b2 4).trans rfl; have zf4 : w1.frozen? ⟨w.heap.size + 2, 4, none⟩ = false := bk_free A1.b2 4; have zc5 : w1.cell? ⟨w.heap.size + 2, 5, none⟩ = some (.bool false) := (bk_cell A1.b2 5).trans rfl; have zf5 : w1.frozen? ⟨w.heap.size + 2, 5, none⟩ = false := bk_free A1.b2 5; have zc6 : w1.cell? ⟨w.heap.size + 2, 6, none⟩ = some (.bool false) := (bk_cell A1.b2 6).trans rfl; have zf6 : w1.frozen? ⟨w.heap.size + 2, 6, none⟩ = false := bk_free A1.b2 6; have yc0 : w1.cell? ⟨w.heap.size + 1, 0, none⟩ = some (.int .i64 0) := (bk_cell A1.b1 0).trans rfl; have yf0 : w1.frozen? ⟨w.heap.size + 1, 0, none⟩ = false := bk_free A1.b1 0; have yc1 : w1.cell? ⟨w.heap.size + 1, 1, none⟩ = some (.int .i64 0) := (bk_cell A1.b1 1).trans rfl; have yf1 : w1.frozen? ⟨w.heap.size + 1, 1, none⟩ = false := bk_free A1.b1 1; have yc2 : w1.cell? ⟨w.heap.size + 1, 2, none⟩ = some (.int .i64 0) := (bk_cell A1.b1 2).trans rfl; have yf2 : w1.frozen? ⟨w.heap.size + 1, 2, none⟩ = false := bk_free A1.b1 2; have yc3 : w1.cell? ⟨w.heap.size + 1, 3, none⟩ = some (.slice none 0 0) := (bk_cell A1.b1 3).trans rfl; have yf3 : w1.frozen? ⟨w.heap.size + 1, 3, none⟩ = false := bk_free A1.b1 3; have yc4 : w1.cell? ⟨w.heap.size + 1, 4, none⟩ = some (.bool false) := (bk_cell A1.b1 4).trans rfl; have yf4 : w1.frozen? ⟨w.heap.size + 1, 4, none⟩ = false := bk_free A1.b1 4; have yc5 : w1.cell? ⟨w.heap.size + 1, 5, none⟩ = some (.bool false) := (bk_cell A1.b1 5).trans rfl; have yf5 : w1.frozen? ⟨w.heap.size + 1, 5, none⟩ = false := bk_free A1.b1 5; have yc6 : w1.cell? ⟨w.heap.size + 1, 6, none⟩ = some (.bool false) := (bk_cell A1.b1 6).trans rfl; have yf6 : w1.frozen? ⟨w.heap.size + 1, 6, none⟩ = false := bk_free A1.b1 6; have hsz : w.heap.size + 2 < w1.heap.size := A1.lt; have H1 : Hid _ := And.intro A1 (And.intro l1 c1); clear A1 l1 c1)
  have cS : Chg (fun t => t = w.heap.size + 2 ∨ t = w.heap.size + 1) w1 (putO ((w1.setCell ⟨w.heap.size + 2, 0, none⟩ (.int .i64 cd)).setCell ⟨w.heap.size + 2, 1, none⟩ (.int .i64 st)) (w.heap.size + 1) cd st 0 (.slice none 0 0) false false false) :=
    (((chg_of_eq w1).set' (w.heap.size + 2) 0 _ (Or.inl rfl)).set' (w.heap.size + 2) 1 _ (Or.inl rfl)).trans ((putO_chg _ _ _ _ _ _ _ _ _).mono' (fun k _ e => Or.inr e))
  exact bodyPost_ret (v := .agg (so7s cd st 0 (.slice none 0 0) false false false)) (results_cell_row (t := 30) rfl _ _ (w.heap.size + 1) _ (fr := (0, 0)) _ rfl (putO_blk ((bk_other (by omega) 1 _).trans ((bk_other (by omega) 0 _).trans H1.out.1.b1)) cd st 0 (.slice none 0 0) false false false) Tryd.underlying30 rfl infoSObs) rfl ⟨rfl, H1.out.2.1.chg cS (fun t ht => ⟨H0.out.2.2.1 t (by omega), by omega⟩), ((Chg.of_below (w3_below w 1 a b _ fb)).trans H1.out.2.2).newS cS (fun t ht => by omega)⟩
set_option maxRecDepth 20000 in
set_option maxHeartbeats 4000000 in
theorem sop_fin (g base : Nat) (D : Nat → Prop) (a b : Int) (u : Value) (fb : Bool) (w : World) (cd st : Int) (M1 : SS) (est : (M1.st : Int) = st) (hgl : g < w.heap.size) (hlt : ∀ t, D t → t < w.heap.size)
    (C : Calls Tryd.prog 25 #[.pointer (some ⟨g, 0, none⟩)] (W3 w 2 a b u fb) fun e w' => e = .returned (.int .i64 cd) ∧ LeftS g base D (w.heap.size + 3) w' M1 (.slice none 0 0) ∧ Chg D (W3 w 2 a b u fb) w') :
    Calls Tryd.prog 17 #[.pointer (some ⟨g, 0, none⟩), .agg #[.int .i64 2, .int .i64 a, .int .i64 b, u, .bool fb]] w fun e w' => e = .returned (.agg (so7s cd st 0 (.slice none 0 0) false false false)) ∧ LeftS g base D (w.heap.size + 3) w' M1 (.slice none 0 0) ∧ Chg D w w' := by
  have A0 := room_new w 2 a b u fb
  have hND : ∀ k, w.heap.size ≤ k → ¬ D k := fun k hk h => by have := hlt k h; omega
  have H0 : Hid _ := And.intro C (And.intro A0 (And.intro hND est))
  clear C A0 hND hlt est
  go_enter Tryd.func17, Tryd.ntmps17
  go_wp2_with (go_at_call 25; refine H0.out.1.mono ?_; rintro e w1 ⟨rfl, l1, c1⟩; have A1 := H0.out.2.1.chg c1 H0.out.2.2.1; have d1 := l1.c1; rw [H0.out.2.2.2] at d1; have zc0 : w1.cell? ⟨w.heap.size + 2, 0, none⟩ = some (.int .i64 1) := (bk_cell A1.b2 0).trans rfl; have zf0 : w1.frozen? ⟨w.heap.size + 2, 0, none⟩ = false := bk_free A1.b2 0; have zc1 : w1.cell? ⟨w.heap.size + 2, 1, none⟩ = some (.int .i64 0) := (bk_cell A1.b2 1).trans rfl; have zf1 : w1.frozen? ⟨w.heap.size + 2, 1, none⟩ = false := bk_free A1.b2 1; have zc2 : w1.cell? ⟨w.heap.size + 2, 2, none⟩ = some (.int .i64 0) := (bk_cell A1.b2 2).trans rfl; have zf2 : w1.frozen? ⟨w.heap.size + 2, 2, none⟩ = false := bk_free A1.b2 2; have zc3 : w1.cell? ⟨w.heap.size + 2, 3, none⟩ = some (.slice none 0 0) := (bk_cell A1.b2 3).trans rfl; have zf3 : w1.frozen? ⟨w.heap.size + 2, 3, none⟩ = false := bk_free A1.b2 3; have zc4 : w1.cell? ⟨w.heap.size + 2, 4, none⟩ = some (.bool false) := (bk_cell A1.b2 4).trans rfl; have zf4 : w1.frozen? ⟨w.heap.size + 2, 4, none⟩ = false := bk_free A1.b2 4; have zc5 : w1.cell? ⟨w.heap.size + 2, 5, none⟩ = some (.bool false) := (bk_cell A1.b2 5).trans rfl; have zf5 : w1.frozen? ⟨w.heap.size + 2, 5, none⟩ = false := bk_free A1.b2 5; have zc6 : w1.cell? ⟨w.heap.size + 2, 6, none⟩ = some (.bool false) := (bk_cell A1.b2 6).trans rfl; have zf6 : w1.frozen? ⟨w.heap.size + 2, 6, none⟩ = false := bk_free A1.b2 6; have yc0 : w1.cell? ⟨w.heap.size + 1, 0, none⟩ = some (.int .i64 0) := (bk_cell A1.b1 0).trans rfl; have yf0 : w1.frozen? ⟨w.heap.size + 1, 0, none⟩ = false := bk_free A1.b1 0; have yc1 : w1.cell? ⟨w.heap.size + 1, 1, none⟩ = some (.int .i64 0) := (bk_cell A1.b1 1).trans rfl; have yf1 : w1.frozen? ⟨w.heap.size + 1, 1, none⟩ = false := bk_free A1.b1 1; have yc2 : w1.cell? ⟨w.heap.size + 1, 2, none⟩ = some (.int .i64 0) := (bk_cell A1.b1 2).trans rfl; have yf2 : w1.frozen? ⟨w.heap.size + 1, 2, none⟩ = false := bk_free A1.b1 2; have yc3 : w1.cell? ⟨w.heap.size + 1, 3, none⟩ = some (.slice none 0 0) := (bk_cell A1.b1 3).trans rfl; have yf3 : w1.frozen? ⟨w.heap.size + 1, 3, none⟩ = false := bk_free A1.b1 3; have yc4 : w1.cell? ⟨w.heap.size + 1, 4, none⟩ = some (.bool false) := (bk_cell A1.b1 4).trans rfl; have yf4 : w1.frozen? ⟨w.heap.size + 1, 4, none⟩ = false := bk_free A1.b1 4; have yc5 : w1.cell? ⟨w.heap.size + 1, 5, none⟩ = some (.bool false) := (bk_cell A1.b1 5).trans rfl; have yf5 : w1.frozen? ⟨w.heap.size + 1, 5, none⟩ = false := bk_free A1.b1 5; have yc6 : w1.cell? ⟨w.heap.size + 1, 6, none⟩ = some (.bool false) := (bk_cell A1.b1 6).trans rfl; have yf6 : w1.frozen? ⟨w.heap.size + 1, 6, none⟩ = false := bk_free A1.b1 6; have hsz : w.heap.size + 2 < w1.heap.size := A1.lt; have H1 : Hid _ := And.intro A1 (And.intro l1 c1); clear A1 l1 c1)
  have cS : Chg (fun t => t = w.heap.size + 2 ∨ t = w.heap.size + 1) w1 (putO ((w1.setCell ⟨w.heap.size + 2, 0, none⟩ (.int .i64 cd)).setCell ⟨w.heap.size + 2, 1, none⟩ (.int .i64 st)) (w.heap.size + 1) cd st 0 (.slice none 0 0) false false false) :=
    (((chg_of_eq w1).set' (w.heap.size + 2) 0 _ (Or.inl rfl)).set' (w.heap.size + 2) 1 _ (Or.inl rfl)).trans ((putO_chg _ _ _ _ _ _ _ _ _).mono' (fun k _ e => Or.inr e))
  exact bodyPost_ret (v := .agg (so7s cd st 0 (.slice none 0 0) false false false)) (results_cell_row (t := 30) rfl _ _ (w.heap.size + 1) _ (fr := (0, 0)) _ rfl (putO_blk ((bk_other (by omega) 1 _).trans ((bk_other (by omega) 0 _).trans H1.out.1.b1)) cd st 0 (.slice none 0 0) false false false) Tryd.underlying30 rfl infoSObs) rfl ⟨rfl, H1.out.2.1.chg cS (fun t ht => ⟨H0.out.2.2.1 t (by omega), by omega⟩), ((Chg.of_below (w3_below w 2 a b _ fb)).trans H1.out.2.2).newS cS (fun t ht => by omega)⟩
set_option maxRecDepth 20000 in
set_option maxHeartbeats 4000000 in
theorem sop_grant (g base : Nat) (D : Nat → Prop) (a b : Int) (u : Value) (fb : Bool) (w : World) (cd st : Int) (M1 : SS) (est : (M1.st : Int) = st) (hgl : g < w.heap.size) (hlt : ∀ t, D t → t < w.heap.size)
    (C : Calls Tryd.prog 26 #[.pointer (some ⟨g, 0, none⟩), .int .i64 b] (W3 w 3 a b u fb) fun e w' => e = .returned (.int .i64 cd) ∧ LeftS g base D (w.heap.size + 3) w' M1 (.slice none 0 0) ∧ Chg D (W3 w 3 a b u fb) w') :
    Calls Tryd.prog 17 #[.pointer (some ⟨g, 0, none⟩), .agg #[.int .i64 3, .int .i64 a, .int .i64 b, u, .bool fb]] w fun e w' => e = .returned (.agg (so7s cd st 0 (.slice none 0 0) false false false)) ∧ LeftS g base D (w.heap.size + 3) w' M1 (.slice none 0 0) ∧ Chg D w w' := by
  have A0 := room_new w 3 a b u fb
  have hND : ∀ k, w.heap.size ≤ k → ¬ D k := fun k hk h => by have := hlt k h; omega
  have H0 : Hid _ := And.intro C (And.intro A0 (And.intro hND est))
  clear C A0 hND hlt est
  go_enter Tryd.func17, Tryd.ntmps17
  go_wp2_with (go_at_call 26; refine H0.out.1.mono ?_; rintro e w1 ⟨rfl, l1, c1⟩; have A1 := H0.out.2.1.chg c1 H0.out.2.2.1; have d1 := l1.c1; rw [H0.out.2.2.2] at d1; have zc0 : w1.cell? ⟨w.heap.size + 2, 0, none⟩ = some (.int .i64 1) := (bk_cell A1.b2 0).trans rfl; have zf0 : w1.frozen? ⟨w.heap.size + 2, 0, none⟩ = false := bk_free A1.b2 0; have zc1 : w1.cell? ⟨w.heap.size + 2, 1, none⟩ = some (.int .i64 0) := (bk_cell A1.b2 1).trans rfl; have zf1 : w1.frozen? ⟨w.heap.size + 2, 1, none⟩ = false := bk_free A1.b2 1; have zc2 : w1.cell? ⟨w.heap.size + 2, 2, none⟩ = some (.int .i64 0) := (bk_cell A1.b2 2).trans rfl; have zf2 : w1.frozen? ⟨w.heap.size + 2, 2, none⟩ = false := bk_free A1.b2 2; have zc3 : w1.cell? ⟨w.heap.size + 2, 3, none⟩ = some (.slice none 0 0) := (bk_cell A1.b2 3).trans rfl; have zf3 : w1.frozen? ⟨w.heap.size + 2, 3, none⟩ = false := bk_free A1.b2 3; have zc4 : w1.cell? ⟨w.heap.size + 2, 4, none⟩ = some (.bool false) := (bk_cell A1.b2 4).trans rfl; have zf4 : w1.frozen? ⟨w.heap.size + 2, 4, none⟩ = false := bk_free A1.b2 4; have zc5 : w1.cell? ⟨w.heap.size + 2, 5, none⟩ = some (.bool false) := (bk_cell A1.b2 5).trans rfl; have zf5 : w1.frozen? ⟨w.heap.size + 2, 5, none⟩ = false := bk_free A1.b2 5; have zc6 : w1.cell? ⟨w.heap.size + 2, 6, none⟩ = some (.bool false) := (bk_cell A1.b2 6).trans rfl; have zf6 : w1.frozen? ⟨w.heap.size + 2, 6, none⟩ = false := bk_free A1.b2 6; have yc0 : w1.cell? ⟨w.heap.size + 1, 0, none⟩ = some (.int .i64 0) := (bk_cell A1.b1 0).trans rfl; have yf0 : w1.frozen? ⟨w.heap.size + 1, 0, none⟩ = false := bk_free A1.b1 0; have yc1 : w1.cell? ⟨w.heap.size + 1, 1, none⟩ = some (.int .i64 0) := (bk_cell A1.b1 1).trans rfl; have yf1 : w1.frozen? ⟨w.heap.size + 1, 1, none⟩ = false := bk_free A1.b1 1; have yc2 : w1.cell? ⟨w.heap.size + 1, 2, none⟩ = some (.int .i64 0) := (bk_cell A1.b1 2).trans rfl; have yf2 : w1.frozen? ⟨w.heap.size + 1, 2, none⟩ = false := bk_free A1.b1 2; have yc3 : w1.cell? ⟨w.heap.size + 1, 3, none⟩ = some (.slice none 0 0) := (bk_cell A1.b1 3).trans rfl; have yf3 : w1.frozen? ⟨w.heap.size + 1, 3, none⟩ = false := bk_free A1.b1 3; have yc4 : w1.cell? ⟨w.heap.size + 1, 4, none⟩ = some (.bool false) := (bk_cell A1.b1 4).trans rfl; have yf4 : w1.frozen? ⟨w.heap.size + 1, 4, none⟩ = false := bk_free A1.b1 4; have yc5 : w1.cell? ⟨w.heap.size + 1, 5, none⟩ = some (.bool false) := (bk_cell A1.b1 5).trans rfl; have yf5 : w1.frozen? ⟨w.heap.size + 1, 5, none⟩ = false := bk_free A1.b1 5; have yc6 : w1.cell? ⟨w.heap.size + 1, 6, none⟩ = some (.bool false) := (bk_cell A1.b1 6).trans rfl; have yf6 : w1.frozen? ⟨w.heap.size + 1, 6, none⟩ = false := bk_free A1.b1 6; have hsz : w.heap.size + 2 < w1.heap.size := A1.lt; have H1 : Hid _ := And.intro A1 (And.intro l1 c1); clear A1 l1 c1)
  have cS : Chg (fun t => t = w.heap.size + 2 ∨ t = w.heap.size + 1) w1 (putO ((w1.setCell ⟨w.heap.size + 2, 0, none⟩ (.int .i64 cd)).setCell ⟨w.heap.size + 2, 1, none⟩ (.int .i64 st)) (w.heap.size + 1) cd st 0 (.slice none 0 0) false false false) :=
    (((chg_of_eq w1).set' (w.heap.size + 2) 0 _ (Or.inl rfl)).set' (w.heap.size + 2) 1 _ (Or.inl rfl)).trans ((putO_chg _ _ _ _ _ _ _ _ _).mono' (fun k _ e => Or.inr e))
  exact bodyPost_ret (v := .agg (so7s cd st 0 (.slice none 0 0) false false false)) (results_cell_row (t := 30) rfl _ _ (w.heap.size + 1) _ (fr := (0, 0)) _ rfl (putO_blk ((bk_other (by omega) 1 _).trans ((bk_other (by omega) 0 _).trans H1.out.1.b1)) cd st 0 (.slice none 0 0) false false false) Tryd.underlying30 rfl infoSObs) rfl ⟨rfl, H1.out.2.1.chg cS (fun t ht => ⟨H0.out.2.2.1 t (by omega), by omega⟩), ((Chg.of_below (w3_below w 3 a b _ fb)).trans H1.out.2.2).newS cS (fun t ht => by omega)⟩
set_option maxRecDepth 20000 in
set_option maxHeartbeats 4000000 in
theorem sop_ack (g base : Nat) (D : Nat → Prop) (a b : Int) (u : Value) (fb : Bool) (w : World) (cd st : Int) (M1 : SS) (est : (M1.st : Int) = st) (hgl : g < w.heap.size) (hlt : ∀ t, D t → t < w.heap.size)
    (C : Calls Tryd.prog 28 #[.pointer (some ⟨g, 0, none⟩), .int .i64 a, .int .i64 b, .bool fb, .int .u8 2] (W3 w 5 a b u fb) fun e w' => e = .returned (.int .i64 cd) ∧ LeftS g base D (w.heap.size + 3) w' M1 (.slice none 0 0) ∧ Chg D (W3 w 5 a b u fb) w') :
    Calls Tryd.prog 17 #[.pointer (some ⟨g, 0, none⟩), .agg #[.int .i64 5, .int .i64 a, .int .i64 b, u, .bool fb]] w fun e w' => e = .returned (.agg (so7s cd st 0 (.slice none 0 0) false false false)) ∧ LeftS g base D (w.heap.size + 3) w' M1 (.slice none 0 0) ∧ Chg D w w' := by
  have A0 := room_new w 5 a b u fb
  have hND : ∀ k, w.heap.size ≤ k → ¬ D k := fun k hk h => by have := hlt k h; omega
  have H0 : Hid _ := And.intro C (And.intro A0 (And.intro hND est))
  clear C A0 hND hlt est
  go_enter Tryd.func17, Tryd.ntmps17
  go_wp2_with (go_at_call 28; refine H0.out.1.mono ?_; rintro e w1 ⟨rfl, l1, c1⟩; have A1 := H0.out.2.1.chg c1 H0.out.2.2.1; have d1 := l1.c1; rw [H0.out.2.2.2] at d1; have zc0 : w1.cell? ⟨w.heap.size + 2, 0, none⟩ = some (.int .i64 1) := (bk_cell A1.b2 0).trans rfl; have zf0 : w1.frozen? ⟨w.heap.size + 2, 0, none⟩ = false := bk_free A1.b2 0; have zc1 : w1.cell? ⟨w.heap.size + 2, 1, none⟩ = some (.int .i64 0) := (bk_cell A1.b2 1).trans rfl; have zf1 : w1.frozen? ⟨w.heap.size + 2, 1, none⟩ = false := bk_free A1.b2 1; have zc2 : w1.cell? ⟨w.heap.size + 2, 2, none⟩ = some (.int .i64 0) := (bk_cell A1.b2 2).trans rfl; have zf2 : w1.frozen? ⟨w.heap.size + 2, 2, none⟩ = false := bk_free A1.b2 2; have zc3 : w1.cell? ⟨w.heap.size + 2, 3, none⟩ = some (.slice none 0 0) := (bk_cell A1.b2 3).trans rfl; have zf3 : w1.frozen? ⟨w.heap.size + 2, 3, none⟩ = false := bk_free A1.b2 3; have zc4 : w1.cell? ⟨w.heap.size + 2, 4, none⟩ = some (.bool false) := (bk_cell A1.b2 4).trans rfl; have zf4 : w1.frozen? ⟨w.heap.size + 2, 4, none⟩ = false := bk_free A1.b2 4; have zc5 : w1.cell? ⟨w.heap.size + 2, 5, none⟩ = some (.bool false) := (bk_cell A1.b2 5).trans rfl; have zf5 : w1.frozen? ⟨w.heap.size + 2, 5, none⟩ = false := bk_free A1.b2 5; have zc6 : w1.cell? ⟨w.heap.size + 2, 6, none⟩ = some (.bool false) := (bk_cell A1.b2 6).trans rfl; have zf6 : w1.frozen? ⟨w.heap.size + 2, 6, none⟩ = false := bk_free A1.b2 6; have yc0 : w1.cell? ⟨w.heap.size + 1, 0, none⟩ = some (.int .i64 0) := (bk_cell A1.b1 0).trans rfl; have yf0 : w1.frozen? ⟨w.heap.size + 1, 0, none⟩ = false := bk_free A1.b1 0; have yc1 : w1.cell? ⟨w.heap.size + 1, 1, none⟩ = some (.int .i64 0) := (bk_cell A1.b1 1).trans rfl; have yf1 : w1.frozen? ⟨w.heap.size + 1, 1, none⟩ = false := bk_free A1.b1 1; have yc2 : w1.cell? ⟨w.heap.size + 1, 2, none⟩ = some (.int .i64 0) := (bk_cell A1.b1 2).trans rfl; have yf2 : w1.frozen? ⟨w.heap.size + 1, 2, none⟩ = false := bk_free A1.b1 2; have yc3 : w1.cell? ⟨w.heap.size + 1, 3, none⟩ = some (.slice none 0 0) := (bk_cell A1.b1 3).trans rfl; have yf3 : w1.frozen? ⟨w.heap.size + 1, 3, none⟩ = false := bk_free A1.b1 3; have yc4 : w1.cell? ⟨w.heap.size + 1, 4, none⟩ = some (.bool false) := (bk_cell A1.b1 4).trans rfl; have yf4 : w1.frozen? ⟨w.heap.size + 1, 4, none⟩ = false := bk_free A1.b1 4; have yc5 : w1.cell? ⟨w.heap.size + 1, 5, none⟩ = some (.bool false) := (bk_cell A1.b1 5).trans rfl; have yf5 : w1.frozen? ⟨w.heap.size + 1, 5, none⟩ = false := bk_free A1.b1 5; have yc6 : w1.cell? ⟨w.heap.size + 1, 6, none⟩ = some (.bool false) := (bk_cell A1.b1 6).trans rfl; have yf6 : w1.frozen? ⟨w.heap.size + 1, 6, none⟩ = false := bk_free A1.b1 6; have hsz : w.heap.size + 2 < w1.heap.size := A1.lt; have H1 : Hid _ := And.intro A1 (And.intro l1 c1); clear A1 l1 c1)
  have cS : Chg (fun t => t = w.heap.size + 2 ∨ t = w.heap.size + 1) w1 (putO ((w1.setCell ⟨w.heap.size + 2, 0, none⟩ (.int .i64 cd)).setCell ⟨w.heap.size + 2, 1, none⟩ (.int .i64 st)) (w.heap.size + 1) cd st 0 (.slice none 0 0) false false false) :=
    (((chg_of_eq w1).set' (w.heap.size + 2) 0 _ (Or.inl rfl)).set' (w.heap.size + 2) 1 _ (Or.inl rfl)).trans ((putO_chg _ _ _ _ _ _ _ _ _).mono' (fun k _ e => Or.inr e))
  exact bodyPost_ret (v := .agg (so7s cd st 0 (.slice none 0 0) false false false)) (results_cell_row (t := 30) rfl _ _ (w.heap.size + 1) _ (fr := (0, 0)) _ rfl (putO_blk ((bk_other (by omega) 1 _).trans ((bk_other (by omega) 0 _).trans H1.out.1.b1)) cd st 0 (.slice none 0 0) false false false) Tryd.underlying30 rfl infoSObs) rfl ⟨rfl, H1.out.2.1.chg cS (fun t ht => ⟨H0.out.2.2.1 t (by omega), by omega⟩), ((Chg.of_below (w3_below w 5 a b _ fb)).trans H1.out.2.2).newS cS (fun t ht => by omega)⟩
set_option maxRecDepth 20000 in
set_option maxHeartbeats 4000000 in
theorem sop_lost (g base : Nat) (D : Nat → Prop) (a b : Int) (u : Value) (fb : Bool) (w : World) (cd st : Int) (M1 : SS) (est : (M1.st : Int) = st) (hgl : g < w.heap.size) (hlt : ∀ t, D t → t < w.heap.size)
    (C : Calls Tryd.prog 28 #[.pointer (some ⟨g, 0, none⟩), .int .i64 a, .int .i64 b, .bool fb, .int .u8 3] (W3 w 6 a b u fb) fun e w' => e = .returned (.int .i64 cd) ∧ LeftS g base D (w.heap.size + 3) w' M1 (.slice none 0 0) ∧ Chg D (W3 w 6 a b u fb) w') :
    Calls Tryd.prog 17 #[.pointer (some ⟨g, 0, none⟩), .agg #[.int .i64 6, .int .i64 a, .int .i64 b, u, .bool fb]] w fun e w' => e = .returned (.agg (so7s cd st 0 (.slice none 0 0) false false false)) ∧ LeftS g base D (w.heap.size + 3) w' M1 (.slice none 0 0) ∧ Chg D w w' := by
  have A0 := room_new w 6 a b u fb
  have hND : ∀ k, w.heap.size ≤ k → ¬ D k := fun k hk h => by have := hlt k h; omega
  have H0 : Hid _ := And.intro C (And.intro A0 (And.intro hND est))
  clear C A0 hND hlt est
  go_enter Tryd.func17, Tryd.ntmps17
  go_wp2_with (go_at_call 28; refine H0.out.1.mono ?_; rintro e w1 ⟨rfl, l1, c1⟩; have A1 := H0.out.2.1.chg c1 H0.out.2.2.1; have d1 := l1.c1; rw [H0.out.2.2.2] at d1; have zc0 : w1.cell? ⟨w.heap.size + 2, 0, none⟩ = some (.int .i64 1) := (bk_cell A1.b2 0).trans rfl; have zf0 : w1.frozen? ⟨w.heap.size + 2, 0, none⟩ = false := bk_free A1.b2 0; have zc1 : w1.cell? ⟨w.heap.size + 2, 1, none⟩ = some (.int .i64 0) := (bk_cell A1.b2 1).trans rfl; have zf1 : w1.frozen? ⟨w.heap.size + 2, 1, none⟩ = false := bk_free A1.b2 1; have zc2 : w1.cell? ⟨w.heap.size + 2, 2, none⟩ = some (.int .i64 0) := (bk_cell A1.b2 2).trans rfl; have zf2 : w1.frozen? ⟨w.heap.size + 2, 2, none⟩ = false := bk_free A1.b2 2; have zc3 : w1.cell? ⟨w.heap.size + 2, 3, none⟩ = some (.slice none 0 0) := (bk_cell A1.b2 3).trans rfl; have zf3 : w1.frozen? ⟨w.heap.size + 2, 3, none⟩ = false := bk_free A1.b2 3; have zc4 : w1.cell? ⟨w.heap.size + 2, 4, none⟩ = some (.bool false) := (bk_cell A1.b2 4).trans rfl; have zf4 : w1.frozen? ⟨w.heap.size + 2, 4, none⟩ = false := bk_free A1.b2 4; have zc5 : w1.cell? ⟨w.heap.size + 2, 5, none⟩ = some (.bool false) := (bk_cell A1.b2 5).trans rfl; have zf5 : w1.frozen? ⟨w.heap.size + 2, 5, none⟩ = false := bk_free A1.b2 5; have zc6 : w1.cell? ⟨w.heap.size + 2, 6, none⟩ = some (.bool false) := (bk_cell A1.b2 6).trans rfl; have zf6 : w1.frozen? ⟨w.heap.size + 2, 6, none⟩ = false := bk_free A1.b2 6; have yc0 : w1.cell? ⟨w.heap.size + 1, 0, none⟩ = some (.int .i64 0) := (bk_cell A1.b1 0).trans rfl; have yf0 : w1.frozen? ⟨w.heap.size + 1, 0, none⟩ = false := bk_free A1.b1 0; have yc1 : w1.cell? ⟨w.heap.size + 1, 1, none⟩ = some (.int .i64 0) := (bk_cell A1.b1 1).trans rfl; have yf1 : w1.frozen? ⟨w.heap.size + 1, 1, none⟩ = false := bk_free A1.b1 1; have yc2 : w1.cell? ⟨w.heap.size + 1, 2, none⟩ = some (.int .i64 0) := (bk_cell A1.b1 2).trans rfl; have yf2 : w1.frozen? ⟨w.heap.size + 1, 2, none⟩ = false := bk_free A1.b1 2; have yc3 : w1.cell? ⟨w.heap.size + 1, 3, none⟩ = some (.slice none 0 0) := (bk_cell A1.b1 3).trans rfl; have yf3 : w1.frozen? ⟨w.heap.size + 1, 3, none⟩ = false := bk_free A1.b1 3; have yc4 : w1.cell? ⟨w.heap.size + 1, 4, none⟩ = some (.bool false) := (bk_cell A1.b1 4).trans rfl; have yf4 : w1.frozen? ⟨w.heap.size + 1, 4, none⟩ = false := bk_free A1.b1 4; have yc5 : w1.cell? ⟨w.heap.size + 1, 5, none⟩ = some (.bool false) := (bk_cell A1.b1 5).trans rfl; have yf5 : w1.frozen? ⟨w.heap.size + 1, 5, none⟩ = false := bk_free A1.b1 5; have yc6 : w1.cell? ⟨w.heap.size + 1, 6, none⟩ = some (.bool false) := (bk_cell A1.b1 6).trans rfl; have yf6 : w1.frozen? ⟨w.heap.size + 1, 6, none⟩ = false := bk_free A1.b1 6; have hsz : w.heap.size + 2 < w1.heap.size := A1.lt; have H1 : Hid _ := And.intro A1 (And.intro l1 c1); clear A1 l1 c1)
  have cS : Chg (fun t => t = w.heap.size + 2 ∨ t = w.heap.size + 1) w1 (putO ((w1.setCell ⟨w.heap.size + 2, 0, none⟩ (.int .i64 cd)).setCell ⟨w.heap.size + 2, 1, none⟩ (.int .i64 st)) (w.heap.size + 1) cd st 0 (.slice none 0 0) false false false) :=
    (((chg_of_eq w1).set' (w.heap.size + 2) 0 _ (Or.inl rfl)).set' (w.heap.size + 2) 1 _ (Or.inl rfl)).trans ((putO_chg _ _ _ _ _ _ _ _ _).mono' (fun k _ e => Or.inr e))
  exact bodyPost_ret (v := .agg (so7s cd st 0 (.slice none 0 0) false false false)) (results_cell_row (t := 30) rfl _ _ (w.heap.size + 1) _ (fr := (0, 0)) _ rfl (putO_blk ((bk_other (by omega) 1 _).trans ((bk_other (by omega) 0 _).trans H1.out.1.b1)) cd st 0 (.slice none 0 0) false false false) Tryd.underlying30 rfl infoSObs) rfl ⟨rfl, H1.out.2.1.chg cS (fun t ht => ⟨H0.out.2.2.1 t (by omega), by omega⟩), ((Chg.of_below (w3_below w 6 a b _ fb)).trans H1.out.2.2).newS cS (fun t ht => by omega)⟩
set_option maxRecDepth 20000 in
set_option maxHeartbeats 4000000 in
theorem sop_racked (g base : Nat) (D : Nat → Prop) (a b : Int) (u : Value) (fb : Bool) (w : World) (cd st : Int) (M1 : SS) (est : (M1.st : Int) = st) (hgl : g < w.heap.size) (hlt : ∀ t, D t → t < w.heap.size)
    (C : Calls Tryd.prog 30 #[.pointer (some ⟨g, 0, none⟩)] (W3 w 8 a b u fb) fun e w' => e = .returned (.int .i64 cd) ∧ LeftS g base D (w.heap.size + 3) w' M1 (.slice none 0 0) ∧ Chg D (W3 w 8 a b u fb) w') :
    Calls Tryd.prog 17 #[.pointer (some ⟨g, 0, none⟩), .agg #[.int .i64 8, .int .i64 a, .int .i64 b, u, .bool fb]] w fun e w' => e = .returned (.agg (so7s cd st 0 (.slice none 0 0) false false false)) ∧ LeftS g base D (w.heap.size + 3) w' M1 (.slice none 0 0) ∧ Chg D w w' := by
  have A0 := room_new w 8 a b u fb
  have hND : ∀ k, w.heap.size ≤ k → ¬ D k := fun k hk h => by have := hlt k h; omega
  have H0 : Hid _ := And.intro C (And.intro A0 (And.intro hND est))
  clear C A0 hND hlt est
  go_enter Tryd.func17, Tryd.ntmps17
  go_wp2_with (go_at_call 30; refine H0.out.1.mono ?_; rintro e w1 ⟨rfl, l1, c1⟩; have A1 := H0.out.2.1.chg c1 H0.out.2.2.1; have d1 := l1.c1; rw [H0.out.2.2.2] at d1; have zc0 : w1.cell? ⟨w.heap.size + 2, 0, none⟩ = some (.int .i64 1) := (bk_cell A1.b2 0).trans rfl; have zf0 : w1.frozen? ⟨w.heap.size + 2, 0, none⟩ = false := bk_free A1.b2 0; have zc1 : w1.cell? ⟨w.heap.size + 2, 1, none⟩ = some (.int .i64 0) := (bk_cell A1.b2 1).trans rfl; have zf1 : w1.frozen? ⟨w.heap.size + 2, 1, none⟩ = false := bk_free A1.b2 1; have zc2 : w1.cell? ⟨w.heap.size + 2, 2, none⟩ = some (.int .i64 0) := (bk_cell A1.b2 2).trans rfl; have zf2 : w1.frozen? ⟨w.heap.size + 2, 2, none⟩ = false := bk_free A1.b2 2; have zc3 : w1.cell? ⟨w.heap.size + 2, 3, none⟩ = some (.slice none 0 0) := (bk_cell A1.b2 3).trans rfl; have zf3 : w1.frozen? ⟨w.heap.size + 2, 3, none⟩ = false := bk_free A1.b2 3; have zc4 : w1.cell? ⟨w.heap.size + 2, 4, none⟩ = some (.bool false) := (bk_cell A1.b2 4).trans rfl; have zf4 : w1.frozen? ⟨w.heap.size + 2, 4, none⟩ = false := bk_free A1.b2 4; have zc5 : w1.cell? ⟨w.heap.size + 2, 5, none⟩ = some (.bool false) := (bk_cell A1.b2 5).trans rfl; have zf5 : w1.frozen? ⟨w.heap.size + 2, 5, none⟩ = false := bk_free A1.b2 5; have zc6 : w1.cell? ⟨w.heap.size + 2, 6, none⟩ = some (.bool false) := (bk_cell A1.b2 6).trans rfl; have zf6 : w1.frozen? ⟨w.heap.size + 2, 6, none⟩ = false := bk_free A1.b2 6; have yc0 : w1.cell? ⟨w.heap.size + 1, 0, none⟩ = some (.int .i64 0) := (bk_cell A1.b1 0).trans rfl; have yf0 : w1.frozen? ⟨w.heap.size + 1, 0, none⟩ = false := bk_free A1.b1 0; have yc1 : w1.cell? ⟨w.heap.size + 1, 1, none⟩ = some (.int .i64 0) := (bk_cell A1.b1 1).trans rfl; have yf1 : w1.frozen? ⟨w.heap.size + 1, 1, none⟩ = false := bk_free A1.b1 1; have yc2 : w1.cell? ⟨w.heap.size + 1, 2, none⟩ = some (.int .i64 0) := (bk_cell A1.b1 2).trans rfl; have yf2 : w1.frozen? ⟨w.heap.size + 1, 2, none⟩ = false := bk_free A1.b1 2; have yc3 : w1.cell? ⟨w.heap.size + 1, 3, none⟩ = some (.slice none 0 0) := (bk_cell A1.b1 3).trans rfl; have yf3 : w1.frozen? ⟨w.heap.size + 1, 3, none⟩ = false := bk_free A1.b1 3; have yc4 : w1.cell? ⟨w.heap.size + 1, 4, none⟩ = some (.bool false) := (bk_cell A1.b1 4).trans rfl; have yf4 : w1.frozen? ⟨w.heap.size + 1, 4, none⟩ = false := bk_free A1.b1 4; have yc5 : w1.cell? ⟨w.heap.size + 1, 5, none⟩ = some (.bool false) := (bk_cell A1.b1 5).trans rfl; have yf5 : w1.frozen? ⟨w.heap.size + 1, 5, none⟩ = false := bk_free A1.b1 5; have yc6 : w1.cell? ⟨w.heap.size + 1, 6, none⟩ = some (.bool false) := (bk_cell A1.b1 6).trans rfl; have yf6 : w1.frozen? ⟨w.heap.size + 1, 6, none⟩ = false := bk_free A1.b1 6; have hsz : w.heap.size + 2 < w1.heap.size := A1.lt; have H1 : Hid _ := And.intro A1 (And.intro l1 c1); clear A1 l1 c1)
  have cS : Chg (fun t => t = w.heap.size + 2 ∨ t = w.heap.size + 1) w1 (putO ((w1.setCell ⟨w.heap.size + 2, 0, none⟩ (.int .i64 cd)).setCell ⟨w.heap.size + 2, 1, none⟩ (.int .i64 st)) (w.heap.size + 1) cd st 0 (.slice none 0 0) false false false) :=
    (((chg_of_eq w1).set' (w.heap.size + 2) 0 _ (Or.inl rfl)).set' (w.heap.size + 2) 1 _ (Or.inl rfl)).trans ((putO_chg _ _ _ _ _ _ _ _ _).mono' (fun k _ e => Or.inr e))
  exact bodyPost_ret (v := .agg (so7s cd st 0 (.slice none 0 0) false false false)) (results_cell_row (t := 30) rfl _ _ (w.heap.size + 1) _ (fr := (0, 0)) _ rfl (putO_blk ((bk_other (by omega) 1 _).trans ((bk_other (by omega) 0 _).trans H1.out.1.b1)) cd st 0 (.slice none 0 0) false false false) Tryd.underlying30 rfl infoSObs) rfl ⟨rfl, H1.out.2.1.chg cS (fun t ht => ⟨H0.out.2.2.1 t (by omega), by omega⟩), ((Chg.of_below (w3_below w 8 a b _ fb)).trans H1.out.2.2).newS cS (fun t ht => by omega)⟩
end Go.Proofs.YtpdclbfjngmppaaDoor

namespace Go.Proofs.YtpdclbfjngmppaaDoor
open Go.RowKit
set_option linter.unusedVariables false
set_option linter.unusedSimpArgs false

set_option maxRecDepth 20000 in
set_option maxHeartbeats 4000000 in
theorem sop_pull (g base : Nat) (D : Nat → Prop) (a b : Int) (u : Value) (fb : Bool) (w : World) (cd off st : Int) (rv : Value) (s f bk : Bool) (M1 : SS) (est : (M1.st : Int) = st) (hgl : g < w.heap.size) (hlt : ∀ t, D t → t < w.heap.size) (X : List Int)
    (C : Calls Tryd.prog 27 #[.pointer (some ⟨g, 0, none⟩), .int .i64 b] (W3 w 4 a b u fb) fun e w' => ∃ rv, e = .returned (.agg (so7c cd off rv s f bk)) ∧ w'.ownsRow (w.heap.size + 3) 5 1 rv X.length (X.map (Value.int .u8)) ∧ LeftS g base D (w.heap.size + 3) w' M1 rv ∧ Chg D (W3 w 4 a b u fb) w') :
    Calls Tryd.prog 17 #[.pointer (some ⟨g, 0, none⟩), .agg #[.int .i64 4, .int .i64 a, .int .i64 b, u, .bool fb]] w fun e w' => ∃ rv, e = .returned (.agg (so7s cd st off rv s f bk)) ∧ w'.ownsRow (w.heap.size + 3) 5 1 rv X.length (X.map (Value.int .u8)) ∧ LeftS g base D (w.heap.size + 3) w' M1 rv ∧ Chg D w w' := by
  have A0 := room_new w 4 a b u fb
  have hND : ∀ k, w.heap.size ≤ k → ¬ D k := fun k hk h => by have := hlt k h; omega
  obtain ⟨n, en⟩ : ∃ n, n = X.length := ⟨_, rfl⟩
  have H0 : Hid _ := And.intro C (And.intro A0 (And.intro hND (And.intro est en)))
  clear C A0 hND hlt est en
  go_enter Tryd.func17, Tryd.ntmps17
  go_upto_block 0 with fail
  go_cut [5] from 9 to 64 (fun v5 wx => v5 = .pointer (some ⟨w.heap.size + 1 + 1, 0, none⟩) ∧ ∃ rv, RoomS w wx (so7c cd off rv s f bk) ∧ LeftS g base D (w.heap.size + 3) wx M1 rv ∧ Chg D w wx ∧ wx.ownsRow (w.heap.size + 3) 5 1 rv X.length (X.map (Value.int .u8)))
  case first =>
    go_wp2_with (go_at_call 27; refine H0.out.1.mono ?_; rintro e w1 ⟨rv, rfl, o1, l1, c1⟩; obtain ⟨ra, rc, er⟩ := own_form o1; rw [← H0.out.2.2.2.2] at er; subst er; have A1 := H0.out.2.1.chg c1 H0.out.2.2.1; have zc0 : w1.cell? ⟨w.heap.size + 2, 0, none⟩ = some (.int .i64 1) := (bk_cell A1.b2 0).trans rfl; have zf0 : w1.frozen? ⟨w.heap.size + 2, 0, none⟩ = false := bk_free A1.b2 0; have zc1 : w1.cell? ⟨w.heap.size + 2, 1, none⟩ = some (.int .i64 0) := (bk_cell A1.b2 1).trans rfl; have zf1 : w1.frozen? ⟨w.heap.size + 2, 1, none⟩ = false := bk_free A1.b2 1; have zc2 : w1.cell? ⟨w.heap.size + 2, 2, none⟩ = some (.int .i64 0) := (bk_cell A1.b2 2).trans rfl; have zf2 : w1.frozen? ⟨w.heap.size + 2, 2, none⟩ = false := bk_free A1.b2 2; have zc3 : w1.cell? ⟨w.heap.size + 2, 3, none⟩ = some (.slice none 0 0) := (bk_cell A1.b2 3).trans rfl; have zf3 : w1.frozen? ⟨w.heap.size + 2, 3, none⟩ = false := bk_free A1.b2 3; have zc4 : w1.cell? ⟨w.heap.size + 2, 4, none⟩ = some (.bool false) := (bk_cell A1.b2 4).trans rfl; have zf4 : w1.frozen? ⟨w.heap.size + 2, 4, none⟩ = false := bk_free A1.b2 4; have zc5 : w1.cell? ⟨w.heap.size + 2, 5, none⟩ = some (.bool false) := (bk_cell A1.b2 5).trans rfl; have zf5 : w1.frozen? ⟨w.heap.size + 2, 5, none⟩ = false := bk_free A1.b2 5; have zc6 : w1.cell? ⟨w.heap.size + 2, 6, none⟩ = some (.bool false) := (bk_cell A1.b2 6).trans rfl; have zf6 : w1.frozen? ⟨w.heap.size + 2, 6, none⟩ = false := bk_free A1.b2 6; have hsz : w.heap.size + 2 < w1.heap.size := A1.lt; have H1 : Hid _ := And.intro A1 (And.intro l1 (And.intro c1 o1)); clear A1 l1 c1 o1)
    go_meet
    have cS : Chg (fun t => t = w.heap.size + 2) w1 (put7 w1 (w.heap.size + 2) cd off (.slice ra n rc) s f bk) := put7_chg w1 (w.heap.size + 2) cd off (.slice ra n rc) s f bk
    exact ⟨rfl, _, ⟨(cS.block _ (by omega) (by omega)).trans H1.out.1.b1, put7_blk H1.out.1.b2 cd off (.slice ra n rc) s f bk⟩, H1.out.2.1.chg cS (fun t ht => ⟨H0.out.2.2.1 t (by omega), by omega⟩), ((Chg.of_below (w3_below w 4 a b _ fb)).trans H1.out.2.2.1).newS cS (fun t ht => by omega), ownsChg cS H1.out.2.2.2 (fun t ht e => by have t1 := (H1.out.2.2.2.lt t ht).1; omega)⟩
  case rest =>
  obtain ⟨rfl, rv, A1, l1, c1, o1⟩ := hcut
  obtain ⟨ra, rc, er⟩ := own_form o1
  rw [← H0.out.2.2.2.2] at er
  subst er
  have d1 := l1.c1
  rw [H0.out.2.2.2.1] at d1
  have xc0 : wc.cell? ⟨w.heap.size + 2, 0, none⟩ = some (.int .i64 cd) := (bk_cell A1.b2 0).trans rfl
  have xf0 : wc.frozen? ⟨w.heap.size + 2, 0, none⟩ = false := bk_free A1.b2 0
  have xc1 : wc.cell? ⟨w.heap.size + 2, 1, none⟩ = some (.int .i64 0) := (bk_cell A1.b2 1).trans rfl
  have xf1 : wc.frozen? ⟨w.heap.size + 2, 1, none⟩ = false := bk_free A1.b2 1
  have xc2 : wc.cell? ⟨w.heap.size + 2, 2, none⟩ = some (.int .i64 off) := (bk_cell A1.b2 2).trans rfl
  have xf2 : wc.frozen? ⟨w.heap.size + 2, 2, none⟩ = false := bk_free A1.b2 2
  have xc3 : wc.cell? ⟨w.heap.size + 2, 3, none⟩ = some (.slice ra n rc) := (bk_cell A1.b2 3).trans rfl
  have xf3 : wc.frozen? ⟨w.heap.size + 2, 3, none⟩ = false := bk_free A1.b2 3
  have xc4 : wc.cell? ⟨w.heap.size + 2, 4, none⟩ = some (.bool s) := (bk_cell A1.b2 4).trans rfl
  have xf4 : wc.frozen? ⟨w.heap.size + 2, 4, none⟩ = false := bk_free A1.b2 4
  have xc5 : wc.cell? ⟨w.heap.size + 2, 5, none⟩ = some (.bool f) := (bk_cell A1.b2 5).trans rfl
  have xf5 : wc.frozen? ⟨w.heap.size + 2, 5, none⟩ = false := bk_free A1.b2 5
  have xc6 : wc.cell? ⟨w.heap.size + 2, 6, none⟩ = some (.bool bk) := (bk_cell A1.b2 6).trans rfl
  have xf6 : wc.frozen? ⟨w.heap.size + 2, 6, none⟩ = false := bk_free A1.b2 6
  have yc0 : wc.cell? ⟨w.heap.size + 1, 0, none⟩ = some (.int .i64 0) := (bk_cell A1.b1 0).trans rfl
  have yf0 : wc.frozen? ⟨w.heap.size + 1, 0, none⟩ = false := bk_free A1.b1 0
  have yc1 : wc.cell? ⟨w.heap.size + 1, 1, none⟩ = some (.int .i64 0) := (bk_cell A1.b1 1).trans rfl
  have yf1 : wc.frozen? ⟨w.heap.size + 1, 1, none⟩ = false := bk_free A1.b1 1
  have yc2 : wc.cell? ⟨w.heap.size + 1, 2, none⟩ = some (.int .i64 0) := (bk_cell A1.b1 2).trans rfl
  have yf2 : wc.frozen? ⟨w.heap.size + 1, 2, none⟩ = false := bk_free A1.b1 2
  have yc3 : wc.cell? ⟨w.heap.size + 1, 3, none⟩ = some (.slice none 0 0) := (bk_cell A1.b1 3).trans rfl
  have yf3 : wc.frozen? ⟨w.heap.size + 1, 3, none⟩ = false := bk_free A1.b1 3
  have yc4 : wc.cell? ⟨w.heap.size + 1, 4, none⟩ = some (.bool false) := (bk_cell A1.b1 4).trans rfl
  have yf4 : wc.frozen? ⟨w.heap.size + 1, 4, none⟩ = false := bk_free A1.b1 4
  have yc5 : wc.cell? ⟨w.heap.size + 1, 5, none⟩ = some (.bool false) := (bk_cell A1.b1 5).trans rfl
  have yf5 : wc.frozen? ⟨w.heap.size + 1, 5, none⟩ = false := bk_free A1.b1 5
  have yc6 : wc.cell? ⟨w.heap.size + 1, 6, none⟩ = some (.bool false) := (bk_cell A1.b1 6).trans rfl
  have yf6 : wc.frozen? ⟨w.heap.size + 1, 6, none⟩ = false := bk_free A1.b1 6
  have hsz : w.heap.size + 2 < wc.heap.size := A1.lt
  have H1 : Hid _ := And.intro A1 (And.intro l1 (And.intro c1 o1))
  clear A1 l1 c1 o1
  go_wp2_with fail
  have cS : Chg (fun t => t = w.heap.size + 2 ∨ t = w.heap.size + 1) wc (putO (wc.setCell ⟨w.heap.size + 2, 1, none⟩ (.int .i64 st)) (w.heap.size + 1) cd st off (.slice ra n rc) s f bk) :=
    ((chg_of_eq wc).set' (w.heap.size + 2) 1 _ (Or.inl rfl)).trans ((putO_chg _ _ _ _ _ _ _ _ _).mono' (fun k _ e => Or.inr e))
  exact bodyPost_ret (v := .agg (so7s cd st off (.slice ra n rc) s f bk)) (results_cell_row (t := 30) rfl _ _ (w.heap.size + 1) _ (fr := (0, 0)) _ rfl (putO_blk ((bk_other (by omega) 1 _).trans H1.out.1.b1) cd st off (.slice ra n rc) s f bk) Tryd.underlying30 rfl infoSObs) rfl ⟨_, rfl, ownsChg cS H1.out.2.2.2 (fun t ht e => by have t1 := (H1.out.2.2.2.lt t ht).1; omega), H1.out.2.1.chg cS (fun t ht => ⟨H0.out.2.2.1 t (by omega), by omega⟩), H1.out.2.2.1.newS cS (fun t ht => by omega)⟩
set_option maxRecDepth 20000 in
set_option maxHeartbeats 4000000 in
theorem sop_reset (g base : Nat) (D : Nat → Prop) (a b : Int) (u : Value) (fb : Bool) (w : World) (cd off st : Int) (rv : Value) (s f bk : Bool) (M1 : SS) (est : (M1.st : Int) = st) (hgl : g < w.heap.size) (hlt : ∀ t, D t → t < w.heap.size) (X : List Int)
    (C : Calls Tryd.prog 29 #[.pointer (some ⟨g, 0, none⟩)] (W3 w 7 a b u fb) fun e w' => ∃ rv, e = .returned (.agg (so7c cd off rv s f bk)) ∧ w'.ownsRow (w.heap.size + 3) 5 1 rv X.length (X.map (Value.int .u8)) ∧ LeftS g base D (w.heap.size + 3) w' M1 rv ∧ Chg D (W3 w 7 a b u fb) w') :
    Calls Tryd.prog 17 #[.pointer (some ⟨g, 0, none⟩), .agg #[.int .i64 7, .int .i64 a, .int .i64 b, u, .bool fb]] w fun e w' => ∃ rv, e = .returned (.agg (so7s cd st off rv s f bk)) ∧ w'.ownsRow (w.heap.size + 3) 5 1 rv X.length (X.map (Value.int .u8)) ∧ LeftS g base D (w.heap.size + 3) w' M1 rv ∧ Chg D w w' := by
  have A0 := room_new w 7 a b u fb
  have hND : ∀ k, w.heap.size ≤ k → ¬ D k := fun k hk h => by have := hlt k h; omega
  obtain ⟨n, en⟩ : ∃ n, n = X.length := ⟨_, rfl⟩
  have H0 : Hid _ := And.intro C (And.intro A0 (And.intro hND (And.intro est en)))
  clear C A0 hND hlt est en
  go_enter Tryd.func17, Tryd.ntmps17
  go_upto_block 0 with fail
  go_cut [5] from 9 to 64 (fun v5 wx => v5 = .pointer (some ⟨w.heap.size + 1 + 1, 0, none⟩) ∧ ∃ rv, RoomS w wx (so7c cd off rv s f bk) ∧ LeftS g base D (w.heap.size + 3) wx M1 rv ∧ Chg D w wx ∧ wx.ownsRow (w.heap.size + 3) 5 1 rv X.length (X.map (Value.int .u8)))
  case first =>
    go_wp2_with (go_at_call 29; refine H0.out.1.mono ?_; rintro e w1 ⟨rv, rfl, o1, l1, c1⟩; obtain ⟨ra, rc, er⟩ := own_form o1; rw [← H0.out.2.2.2.2] at er; subst er; have A1 := H0.out.2.1.chg c1 H0.out.2.2.1; have zc0 : w1.cell? ⟨w.heap.size + 2, 0, none⟩ = some (.int .i64 1) := (bk_cell A1.b2 0).trans rfl; have zf0 : w1.frozen? ⟨w.heap.size + 2, 0, none⟩ = false := bk_free A1.b2 0; have zc1 : w1.cell? ⟨w.heap.size + 2, 1, none⟩ = some (.int .i64 0) := (bk_cell A1.b2 1).trans rfl; have zf1 : w1.frozen? ⟨w.heap.size + 2, 1, none⟩ = false := bk_free A1.b2 1; have zc2 : w1.cell? ⟨w.heap.size + 2, 2, none⟩ = some (.int .i64 0) := (bk_cell A1.b2 2).trans rfl; have zf2 : w1.frozen? ⟨w.heap.size + 2, 2, none⟩ = false := bk_free A1.b2 2; have zc3 : w1.cell? ⟨w.heap.size + 2, 3, none⟩ = some (.slice none 0 0) := (bk_cell A1.b2 3).trans rfl; have zf3 : w1.frozen? ⟨w.heap.size + 2, 3, none⟩ = false := bk_free A1.b2 3; have zc4 : w1.cell? ⟨w.heap.size + 2, 4, none⟩ = some (.bool false) := (bk_cell A1.b2 4).trans rfl; have zf4 : w1.frozen? ⟨w.heap.size + 2, 4, none⟩ = false := bk_free A1.b2 4; have zc5 : w1.cell? ⟨w.heap.size + 2, 5, none⟩ = some (.bool false) := (bk_cell A1.b2 5).trans rfl; have zf5 : w1.frozen? ⟨w.heap.size + 2, 5, none⟩ = false := bk_free A1.b2 5; have zc6 : w1.cell? ⟨w.heap.size + 2, 6, none⟩ = some (.bool false) := (bk_cell A1.b2 6).trans rfl; have zf6 : w1.frozen? ⟨w.heap.size + 2, 6, none⟩ = false := bk_free A1.b2 6; have hsz : w.heap.size + 2 < w1.heap.size := A1.lt; have H1 : Hid _ := And.intro A1 (And.intro l1 (And.intro c1 o1)); clear A1 l1 c1 o1)
    go_meet
    have cS : Chg (fun t => t = w.heap.size + 2) w1 (put7 w1 (w.heap.size + 2) cd off (.slice ra n rc) s f bk) := put7_chg w1 (w.heap.size + 2) cd off (.slice ra n rc) s f bk
    exact ⟨rfl, _, ⟨(cS.block _ (by omega) (by omega)).trans H1.out.1.b1, put7_blk H1.out.1.b2 cd off (.slice ra n rc) s f bk⟩, H1.out.2.1.chg cS (fun t ht => ⟨H0.out.2.2.1 t (by omega), by omega⟩), ((Chg.of_below (w3_below w 7 a b _ fb)).trans H1.out.2.2.1).newS cS (fun t ht => by omega), ownsChg cS H1.out.2.2.2 (fun t ht e => by have t1 := (H1.out.2.2.2.lt t ht).1; omega)⟩
  case rest =>
  obtain ⟨rfl, rv, A1, l1, c1, o1⟩ := hcut
  obtain ⟨ra, rc, er⟩ := own_form o1
  rw [← H0.out.2.2.2.2] at er
  subst er
  have d1 := l1.c1
  rw [H0.out.2.2.2.1] at d1
  have xc0 : wc.cell? ⟨w.heap.size + 2, 0, none⟩ = some (.int .i64 cd) := (bk_cell A1.b2 0).trans rfl
  have xf0 : wc.frozen? ⟨w.heap.size + 2, 0, none⟩ = false := bk_free A1.b2 0
  have xc1 : wc.cell? ⟨w.heap.size + 2, 1, none⟩ = some (.int .i64 0) := (bk_cell A1.b2 1).trans rfl
  have xf1 : wc.frozen? ⟨w.heap.size + 2, 1, none⟩ = false := bk_free A1.b2 1
  have xc2 : wc.cell? ⟨w.heap.size + 2, 2, none⟩ = some (.int .i64 off) := (bk_cell A1.b2 2).trans rfl
  have xf2 : wc.frozen? ⟨w.heap.size + 2, 2, none⟩ = false := bk_free A1.b2 2
  have xc3 : wc.cell? ⟨w.heap.size + 2, 3, none⟩ = some (.slice ra n rc) := (bk_cell A1.b2 3).trans rfl
  have xf3 : wc.frozen? ⟨w.heap.size + 2, 3, none⟩ = false := bk_free A1.b2 3
  have xc4 : wc.cell? ⟨w.heap.size + 2, 4, none⟩ = some (.bool s) := (bk_cell A1.b2 4).trans rfl
  have xf4 : wc.frozen? ⟨w.heap.size + 2, 4, none⟩ = false := bk_free A1.b2 4
  have xc5 : wc.cell? ⟨w.heap.size + 2, 5, none⟩ = some (.bool f) := (bk_cell A1.b2 5).trans rfl
  have xf5 : wc.frozen? ⟨w.heap.size + 2, 5, none⟩ = false := bk_free A1.b2 5
  have xc6 : wc.cell? ⟨w.heap.size + 2, 6, none⟩ = some (.bool bk) := (bk_cell A1.b2 6).trans rfl
  have xf6 : wc.frozen? ⟨w.heap.size + 2, 6, none⟩ = false := bk_free A1.b2 6
  have yc0 : wc.cell? ⟨w.heap.size + 1, 0, none⟩ = some (.int .i64 0) := (bk_cell A1.b1 0).trans rfl
  have yf0 : wc.frozen? ⟨w.heap.size + 1, 0, none⟩ = false := bk_free A1.b1 0
  have yc1 : wc.cell? ⟨w.heap.size + 1, 1, none⟩ = some (.int .i64 0) := (bk_cell A1.b1 1).trans rfl
  have yf1 : wc.frozen? ⟨w.heap.size + 1, 1, none⟩ = false := bk_free A1.b1 1
  have yc2 : wc.cell? ⟨w.heap.size + 1, 2, none⟩ = some (.int .i64 0) := (bk_cell A1.b1 2).trans rfl
  have yf2 : wc.frozen? ⟨w.heap.size + 1, 2, none⟩ = false := bk_free A1.b1 2
  have yc3 : wc.cell? ⟨w.heap.size + 1, 3, none⟩ = some (.slice none 0 0) := (bk_cell A1.b1 3).trans rfl
  have yf3 : wc.frozen? ⟨w.heap.size + 1, 3, none⟩ = false := bk_free A1.b1 3
  have yc4 : wc.cell? ⟨w.heap.size + 1, 4, none⟩ = some (.bool false) := (bk_cell A1.b1 4).trans rfl
  have yf4 : wc.frozen? ⟨w.heap.size + 1, 4, none⟩ = false := bk_free A1.b1 4
  have yc5 : wc.cell? ⟨w.heap.size + 1, 5, none⟩ = some (.bool false) := (bk_cell A1.b1 5).trans rfl
  have yf5 : wc.frozen? ⟨w.heap.size + 1, 5, none⟩ = false := bk_free A1.b1 5
  have yc6 : wc.cell? ⟨w.heap.size + 1, 6, none⟩ = some (.bool false) := (bk_cell A1.b1 6).trans rfl
  have yf6 : wc.frozen? ⟨w.heap.size + 1, 6, none⟩ = false := bk_free A1.b1 6
  have hsz : w.heap.size + 2 < wc.heap.size := A1.lt
  have H1 : Hid _ := And.intro A1 (And.intro l1 (And.intro c1 o1))
  clear A1 l1 c1 o1
  go_wp2_with fail
  have cS : Chg (fun t => t = w.heap.size + 2 ∨ t = w.heap.size + 1) wc (putO (wc.setCell ⟨w.heap.size + 2, 1, none⟩ (.int .i64 st)) (w.heap.size + 1) cd st off (.slice ra n rc) s f bk) :=
    ((chg_of_eq wc).set' (w.heap.size + 2) 1 _ (Or.inl rfl)).trans ((putO_chg _ _ _ _ _ _ _ _ _).mono' (fun k _ e => Or.inr e))
  exact bodyPost_ret (v := .agg (so7s cd st off (.slice ra n rc) s f bk)) (results_cell_row (t := 30) rfl _ _ (w.heap.size + 1) _ (fr := (0, 0)) _ rfl (putO_blk ((bk_other (by omega) 1 _).trans H1.out.1.b1) cd st off (.slice ra n rc) s f bk) Tryd.underlying30 rfl infoSObs) rfl ⟨_, rfl, ownsChg cS H1.out.2.2.2 (fun t ht e => by have t1 := (H1.out.2.2.2.lt t ht).1; omega), H1.out.2.1.chg cS (fun t ht => ⟨H0.out.2.2.1 t (by omega), by omega⟩), H1.out.2.2.1.newS cS (fun t ht => by omega)⟩
end Go.Proofs.YtpdclbfjngmppaaDoor

namespace Go.Proofs.YtpdclbfjngmppaaDoor
open Go.RowKit
set_option linter.unusedVariables false
set_option linter.unusedSimpArgs false

set_option maxRecDepth 20000 in
set_option maxHeartbeats 4000000 in
theorem sop_else (g base : Nat) (D : Nat → Prop) (k a b : Int) (u : Value) (fb : Bool) (w : World) (m : SS) (hR : PRep w D g base m) (hk : ∀ j : Int, 1 ≤ j → j ≤ 8 → k ≠ j) :
    Calls Tryd.prog 17 #[.pointer (some ⟨g, 0, none⟩), .agg #[.int .i64 k, .int .i64 a, .int .i64 b, u, .bool fb]] w fun e w' => e = .returned (.agg (so7s 1 (m.st : Int) 0 (.slice none 0 0) false false false)) ∧ LeftS g base D (w.heap.size + 3) w' m (.slice none 0 0) ∧ Chg D w w' := by
  have e1 : (k == 1) = false := by have := hk 1 (by decide) (by decide); simpa using this
  have e2 : (k == 2) = false := by have := hk 2 (by decide) (by decide); simpa using this
  have e3 : (k == 3) = false := by have := hk 3 (by decide) (by decide); simpa using this
  have e4 : (k == 4) = false := by have := hk 4 (by decide) (by decide); simpa using this
  have e5 : (k == 5) = false := by have := hk 5 (by decide) (by decide); simpa using this
  have e6 : (k == 6) = false := by have := hk 6 (by decide) (by decide); simpa using this
  have e7 : (k == 7) = false := by have := hk 7 (by decide) (by decide); simpa using this
  have e8 : (k == 8) = false := by have := hk 8 (by decide) (by decide); simpa using this
  have d1 : (((w.alloc (.cells #[.int .i64 k, .int .i64 a, .int .i64 b, u, .bool fb] 32)).alloc (.cells #[.int .i64 0, .int .i64 0, .int .i64 0, .slice none 0 0, .bool false, .bool false, .bool false] 30)).alloc (.cells #[.int .i64 1, .int .i64 0, .int .i64 0, .slice none 0 0, .bool false, .bool false, .bool false] 30)).cell? ⟨g, 1, none⟩ = some (.int .i64 (m.st : Int)) := (LeftS.of0 (N := 0) (c := 0) (hR.below (w3_below w k a b u fb))).c1
  have hgl := hR.lt g hR.dg
  have H0 : Hid _ := And.intro hR True.intro
  obtain ⟨st, est⟩ : ∃ st : Int, st = (m.st : Int) := ⟨_, rfl⟩
  rw [← est] at d1
  rw [← est]
  clear hR hk est
  go_enter Tryd.func17, Tryd.ntmps17
  go_wp2_with fail
  have B : Below w.heap.size w (((w.alloc (opB k a b u fb)).alloc (.cells (so7s 1 st 0 (.slice none 0 0) false false false) 30)).alloc (.cells (so7s 1 st 0 (.slice none 0 0) false false false) 30)) := (((Below.refl _ _).alloc (Nat.le_refl _) _).alloc (by simp) _).alloc (by simp <;> omega) _
  exact bodyPost_ret (v := .agg (so7s 1 st 0 (.slice none 0 0) false false false)) (results_cell_row (t := 30) rfl _ _ (w.heap.size + 1) _ (fr := (0, 0)) _ rfl (bk_new3 w (opB k a b u fb) (.cells (so7s 1 st 0 (.slice none 0 0) false false false) 30) (.cells (so7s 1 st 0 (.slice none 0 0) false false false) 30)).2.1 Tryd.underlying30 rfl infoSObs) rfl ⟨rfl, LeftS.of0 (H0.out.1.below B), Chg.of_below B⟩
theorem PRep.shrink {w : World} {D : Nat → Prop} {g base : Nat} {m : SS} (h : PRep w D g base m) : g < w.heap.size := h.lt g h.dg
theorem runS (g base : Nat) (m : SS) (o : SSendOp) (u : Value) (D : Nat → Prop) (w : World) (hE : NE w D) (I : SI m) (I2 : SI2 m) (hcr : m.credit ≤ 9223372036854775807) (hR : PRep w D g base m) (hrow : Row w .u8 u o.f3) (hl : o.f3.length ≤ 140737488355328) (ho : o.f2 ≤ 9223372036854775807) (hbase : base ≤ w.heap.size) :
    Calls Tryd.prog 17 #[.pointer (some ⟨g, 0, none⟩), .agg #[.int .i64 o.f0, .int .i64 o.f1, .int .i64 o.f2, u, .bool o.f4]] w fun e w' => ∃ r, e = .returned (.agg (so7s (sstep m o).2.f0 (sstep m o).2.f1 (sstep m o).2.f2 r (sstep m o).2.f4 (sstep m o).2.f5 (sstep m o).2.f6)) ∧ w'.ownsRow (w.heap.size + 3) 5 1 r (sstep m o).2.f3.length ((sstep m o).2.f3.map (Value.int .u8)) ∧ LeftS g base D (w.heap.size + 3) w' (sstep m o).1 r ∧ Chg D w w' := by
  obtain ⟨k, a, b, X, fb⟩ := o
  dsimp only at *
  have hlt := hR.lt
  have hgl := hR.shrink
  have B3 := w3_below w k a b u fb
  have s3 := w3_size w k a b u fb
  have E3 := hE.below B3
  have R3 := hR.below B3
  have ofD : ∀ (M : SS) (w' : World), PRep w' D g base M → LeftS g base D (w.heap.size + 3) w' M (.slice none 0 0) := fun M w' h => LeftS.of0 h
  unfold sstep
  dsimp only
  have fin : ∀ (cd : Int) (M1 : SS) (S : SS × SSendObs), S = (M1, ⟨cd, M1.st, 0, [], false, false, false⟩) → (Calls Tryd.prog 17 #[.pointer (some ⟨g, 0, none⟩), .agg #[.int .i64 k, .int .i64 a, .int .i64 b, u, .bool fb]] w fun e w' => e = .returned (.agg (so7s cd (M1.st : Int) 0 (.slice none 0 0) false false false)) ∧ LeftS g base D (w.heap.size + 3) w' M1 (.slice none 0 0) ∧ Chg D w w') →
      Calls Tryd.prog 17 #[.pointer (some ⟨g, 0, none⟩), .agg #[.int .i64 k, .int .i64 a, .int .i64 b, u, .bool fb]] w fun e w' => ∃ r, e = .returned (.agg (so7s S.2.f0 S.2.f1 S.2.f2 r S.2.f4 S.2.f5 S.2.f6)) ∧ w'.ownsRow (w.heap.size + 3) 5 1 r S.2.f3.length (S.2.f3.map (Value.int .u8)) ∧ LeftS g base D (w.heap.size + 3) w' S.1 r ∧ Chg D w w' := fun cd M1 S e h => by
    rw [e]
    refine h.mono ?_
    rintro e w' ⟨rfl, l, c⟩
    exact ⟨_, rfl, World.ownsRow_nil _ _ _ _, l, c⟩
  by_cases h1 : k = 1
  · subst h1
    rw [if_pos rfl]
    obtain ⟨ua, uc, eu⟩ := hrow.form
    refine fin (swrite m X).2 (swrite m X).1 _ rfl (sop_write g base D a b u fb w _ _ _ rfl hgl hlt ua X.length uc eu ?_)
    rw [← eu]
    refine (writeP g base m u X D _ E3 I R3 (hrow.below B3) hl (by omega)).mono ?_
    rintro e w' ⟨rfl, r, c⟩
    exact ⟨rfl, ⟨_, r, fun t ht => ht.imp id (fun z => ⟨by omega, z.2⟩), fun t ht => nomatch ht⟩, c⟩
  rw [if_neg h1]
  by_cases h2 : k = 2
  · subst h2
    rw [if_pos rfl]
    refine fin (sfinish m).2 (sfinish m).1 _ rfl (sop_fin g base D a b u fb w _ _ _ rfl hgl hlt ?_)
    refine (finishP g base m D _ E3 I R3).mono ?_
    rintro e w' ⟨rfl, r, c⟩
    exact ⟨rfl, ofD _ _ r, c⟩
  rw [if_neg h2]
  by_cases h3 : k = 3
  · subst h3
    rw [if_pos rfl]
    refine fin (scredit m b).2 (scredit m b).1 _ rfl (sop_grant g base D a b u fb w _ _ _ rfl hgl hlt ?_)
    refine (grantP g base m b D _ R3).mono ?_
    rintro e w' ⟨rfl, r, c⟩
    exact ⟨rfl, ofD _ _ r, c⟩
  rw [if_neg h3]
  by_cases h4 : k = 4
  · subst h4
    rw [if_pos rfl]
    by_cases hb : b < 1 ∨ 1500 < b
    · rw [if_pos hb]
      refine sop_pull g base D a b u fb w 1 0 _ (.slice none 0 0) false false false m rfl hgl hlt [] ?_
      refine (pullI_bad g b _ hb).mono ?_
      rintro e w' ⟨rfl, bw⟩
      exact ⟨_, rfl, World.ownsRow_nil _ _ _ _, ofD _ _ (R3.below bw), Chg.of_below bw⟩
    · rw [if_neg hb]
      obtain ⟨n, rfl⟩ : ∃ n : Nat, b = (n : Int) := ⟨b.toNat, by omega⟩
      rw [Int.toNat_natCast]
      refine sop_pull g base D a n u fb w 0 _ _ (.slice none 0 0) _ _ _ (spull m n).1 rfl hgl hlt (spull m n).2.2.1 ?_
      refine (pullI g base n m D _ E3 I R3 (by omega) (by omega) hcr).mono ?_
      rintro e w' ⟨r, rfl, o1, r1, c1⟩
      exact ⟨_, rfl, owns_mono o1 (by omega), LeftS.of r1 (fun t ht e => by have t1 := (o1.lt t ht).1; have t2 := hlt t e; omega), c1⟩
  rw [if_neg h4]
  by_cases h5 : k = 5
  · subst h5
    rw [if_pos rfl]
    refine fin (shear m a b fb 2).2 (shear m a b fb 2).1 _ rfl (sop_ack g base D a b u fb w _ _ _ rfl hgl hlt ?_)
    refine (hearP g base m a b fb 2 (Or.inl rfl) D _ E3 I I2 R3 ho).mono ?_
    rintro e w' ⟨rfl, r, c⟩
    exact ⟨rfl, ofD _ _ r, c⟩
  rw [if_neg h5]
  by_cases h6 : k = 6
  · subst h6
    rw [if_pos rfl]
    refine fin (shear m a b fb 3).2 (shear m a b fb 3).1 _ rfl (sop_lost g base D a b u fb w _ _ _ rfl hgl hlt ?_)
    refine (hearP g base m a b fb 3 (Or.inr rfl) D _ E3 I I2 R3 ho).mono ?_
    rintro e w' ⟨rfl, r, c⟩
    exact ⟨rfl, ofD _ _ r, c⟩
  rw [if_neg h6]
  by_cases h7 : k = 7
  · subst h7
    rw [if_pos rfl]
    have RP := resetP g base m D _ E3 I R3
    cases hv : m.live
    · rw [hv, if_neg (by decide), if_neg (by decide)] at RP
      rw [if_neg (by decide)]
      refine sop_reset g base D a b u fb w 7 0 _ (.slice none 0 0) false false false m rfl hgl hlt [] ?_
      refine RP.mono ?_
      rintro e w' ⟨rfl, r, c⟩
      exact ⟨_, rfl, World.ownsRow_nil _ _ _ _, ofD _ _ r, c⟩
    · rw [hv, if_pos rfl, if_pos rfl] at RP
      rw [if_pos rfl]
      refine sop_reset g base D a b u fb w 0 _ _ (.slice none 0 0) false false false { m with st := 4 } rfl hgl hlt [] ?_
      refine RP.mono ?_
      rintro e w' ⟨rfl, r, c⟩
      exact ⟨_, rfl, World.ownsRow_nil _ _ _ _, ofD _ _ r, c⟩
  rw [if_neg h7]
  by_cases h8 : k = 8
  · subst h8
    rw [if_pos rfl]
    have RA := resetAckedP g base m D _ E3 I R3
    by_cases hv : m.st = 4
    · rw [if_pos hv, if_pos hv] at RA
      rw [if_pos hv]
      refine fin 0 { m with st := 5 } _ rfl (sop_racked g base D a b u fb w _ _ _ rfl hgl hlt ?_)
      refine RA.mono ?_
      rintro e w' ⟨rfl, r, c⟩
      exact ⟨rfl, ofD _ _ r, c⟩
    · rw [if_neg hv, if_neg hv] at RA
      rw [if_neg hv]
      refine fin 7 m _ rfl (sop_racked g base D a b u fb w _ _ _ rfl hgl hlt ?_)
      refine RA.mono ?_
      rintro e w' ⟨rfl, r, c⟩
      exact ⟨rfl, ofD _ _ r, c⟩
  rw [if_neg h8]
  exact fin 1 m _ rfl (sop_else g base D k a b u fb w m hR (fun j j1 j8 e => by omega))
end Go.Proofs.YtpdclbfjngmppaaDoor

namespace Go.Proofs.YtpdclbfjngmppaaDoor
open Go.RowKit
set_option linter.unusedVariables false
set_option linter.unusedSimpArgs false

/-- Behind k operations. -/
structure RunK (g base : Nat) (R : List SSendOp) (w0 wr : World) (N n k : Nat) (zs : List Value) (U : Nat → Value) (D : Nat → Prop) : Prop where
  zl : zs.length = n * 7
  ow : wr.ownsRow N 30 7 (.slice (some ⟨N, 0, none⟩) n n) n zs
  cs : ∀ j, j < k → ∀ f, f < 7 → zs[j * 7 + f]? = ((sstep (srun R j).1 (R.getD j default)).2.c (U j))[f]?
  inn : ∀ j, j < k → wr.ownsRow (N + 1) 5 1 (U j) (sstep (srun R j).1 (R.getD j default)).2.d.length ((sstep (srun R j).1 (R.getD j default)).2.d.map (Value.int .u8))
  ap : ∀ (i j : Nat), i < j → j < k → ∀ t, (U j).ownBlock = some t → some t ≠ (U i).ownBlock
  rep : PRep wr D g base (srun R k).1
  env : NE wr D
  dr : ¬ D N
  du : ∀ j, j < k → ∀ t, (U j).ownBlock = some t → ¬ D t
  db : ∀ t, D t → w0.heap.size ≤ t
  bw : Below w0.heap.size w0 wr
def RunKI (g base : Nat) (R : List SSendOp) (w0 wr : World) (N n k : Nat) : Prop := ∃ zs U D, RunK g base R w0 wr N n k zs U D
/-- One more. -/
theorem RunK.next {g base N n k : Nat} {R : List SSendOp} {w0 wr w2 : World} {zs : List Value} {U : Nat → Value} {D : Nat → Prop} (h : RunK g base R w0 wr N n k zs U D) (hk : k < n) (hN : w0.heap.size ≤ N) (h0t : 0 < w0.heap.size)
    (S : SS × SSendObs) (eS : S = sstep (srun R k).1 (R.getD k default)) (r : Value) (q0 q1 q2 : Int) (q4 q5 q6 : Bool) (eq0 : q0 = S.2.f0) (eq1 : q1 = S.2.f1) (eq2 : q2 = S.2.f2) (eq4 : q4 = S.2.f4) (eq5 : q5 = S.2.f5) (eq6 : q6 = S.2.f6)
    (cA : Chg D wr w2) (l2 : LeftS g base D wr.heap.size w2 S.1 r) (or2 : w2.ownsRow wr.heap.size 5 1 r S.2.f3.length (S.2.f3.map (Value.int .u8))) :
    RunKI g base R w0 (((((((w2.setCell ⟨N, k * 7, none⟩ (.int .i64 q0)).setCell ⟨N, k * 7 + 1, none⟩ (.int .i64 q1)).setCell ⟨N, k * 7 + 2, none⟩ (.int .i64 q2)).setCell ⟨N, k * 7 + 3, none⟩ r).setCell ⟨N, k * 7 + 4, none⟩ (.bool q4)).setCell ⟨N, k * 7 + 5, none⟩ (.bool q5)).setCell ⟨N, k * 7 + 6, none⟩ (.bool q6)) N n (k + 1) := by
  obtain ⟨zl, ow, cs, inn, ap, rep, env, dr, du, db, bw⟩ := h
  obtain ⟨D1, r2, hD1, hrr⟩ := l2
  have hlt := rep.lt
  have hNl : N < wr.heap.size := (ow.lt N rfl).2
  have hz2 := cA.size
  have ow2 : w2.ownsRow N 30 7 (.slice (some ⟨N, 0, none⟩) n n) n zs := ownsChg cA ow (fun t ht e => by simp [Value.ownBlock] at ht; subst ht; exact dr e)
  have h0 : Chg (fun t => t = N) w2 w2 := chg_of_eq w2
  have cX := (((((((h0.set' N (k * 7) (.int .i64 q0) rfl).set' N (k * 7 + 1) (.int .i64 q1) rfl).set' N (k * 7 + 2) (.int .i64 q2) rfl).set' N (k * 7 + 3) r rfl).set' N (k * 7 + 4) (.bool q4) rfl).set' N (k * 7 + 5) (.bool q5) rfl).set' N (k * 7 + 6) (.bool q6) rfl)
  have dN : ¬ D1 N := fun e => (hD1 N e).elim dr (fun z => by omega)
  have sN : ∀ t, D1 t → ¬ (t = N) := fun t ht e => dN (by rw [← e]; exact ht)
  have e1 : (srun R (k + 1)).1 = S.1 := by rw [eS]; rfl
  have inn2 : ∀ j, j < k → w2.ownsRow (N + 1) 5 1 (U j) (sstep (srun R j).1 (R.getD j default)).2.d.length ((sstep (srun R j).1 (R.getD j default)).2.d.map (Value.int .u8)) := fun j hj => ownsChg cA (inn j hj) (fun t ht e => du j hj t ht e)
  refine ⟨(((((((zs.set (k * 7) (.int .i64 q0)).set (k * 7 + 1) (.int .i64 q1)).set (k * 7 + 2) (.int .i64 q2)).set (k * 7 + 3) r).set (k * 7 + 4) (.bool q4)).set (k * 7 + 5) (.bool q5)).set (k * 7 + 6) (.bool q6)), fun j => if j = k then r else U j, D1, ⟨by simp only [List.length_set]; exact zl, (((((((ow2.stored (k * 7) _).1.stored (k * 7 + 1) _).1.stored (k * 7 + 2) _).1.stored (k * 7 + 3) _).1.stored (k * 7 + 4) _).1.stored (k * 7 + 5) _).1.stored (k * 7 + 6) _).1, fun j hj f hf => ?_, fun j hj => ?_, fun i j hij hj t ht => ?_, ?_, ?_, dN, fun j hj t ht => ?_, fun t ht => ?_, ?_⟩⟩
  · by_cases hjk : j = k
    · subst hjk
      rw [if_pos rfl, ← eS]
      unfold SSendObs.c
      rw [← eq0, ← eq1, ← eq2, ← eq4, ← eq5, ← eq6]
      obtain rfl | rfl | rfl | rfl | rfl | rfl | rfl : f = 0 ∨ f = 1 ∨ f = 2 ∨ f = 3 ∨ f = 4 ∨ f = 5 ∨ f = 6 := by omega
      · rw [show j * 7 + 0 = j * 7 from rfl, List.getElem?_set_ne (by omega), List.getElem?_set_ne (by omega), List.getElem?_set_ne (by omega), List.getElem?_set_ne (by omega), List.getElem?_set_ne (by omega), List.getElem?_set_ne (by omega), List.getElem?_set_self (by first | omega | (simp only [List.length_set]; omega))]; rfl
      · rw [List.getElem?_set_ne (by omega), List.getElem?_set_ne (by omega), List.getElem?_set_ne (by omega), List.getElem?_set_ne (by omega), List.getElem?_set_ne (by omega), List.getElem?_set_self (by first | omega | (simp only [List.length_set]; omega))]; rfl
      · rw [List.getElem?_set_ne (by omega), List.getElem?_set_ne (by omega), List.getElem?_set_ne (by omega), List.getElem?_set_ne (by omega), List.getElem?_set_self (by first | omega | (simp only [List.length_set]; omega))]; rfl
      · rw [List.getElem?_set_ne (by omega), List.getElem?_set_ne (by omega), List.getElem?_set_ne (by omega), List.getElem?_set_self (by first | omega | (simp only [List.length_set]; omega))]; rfl
      · rw [List.getElem?_set_ne (by omega), List.getElem?_set_ne (by omega), List.getElem?_set_self (by first | omega | (simp only [List.length_set]; omega))]; rfl
      · rw [List.getElem?_set_ne (by omega), List.getElem?_set_self (by first | omega | (simp only [List.length_set]; omega))]; rfl
      · rw [List.getElem?_set_self (by first | omega | (simp only [List.length_set]; omega))]; rfl
    · have u := cs j (by omega) f hf
      rw [if_neg hjk, List.getElem?_set_ne (by omega), List.getElem?_set_ne (by omega), List.getElem?_set_ne (by omega), List.getElem?_set_ne (by omega), List.getElem?_set_ne (by omega), List.getElem?_set_ne (by omega), List.getElem?_set_ne (by omega)]; exact u
  · by_cases hjk : j = k
    · rw [if_pos hjk, hjk, ← eS]
      exact owns_mono (ownsChg cX or2 (fun t ht e => by have := (or2.lt t ht).1; have e : t = N := e; omega)) (by omega)
    · rw [if_neg hjk]
      exact ownsChg cX (inn2 j (by omega)) (fun t ht e => by have := ((inn2 j (by omega)).lt t ht).1; have e : t = N := e; omega)
  · by_cases hjk : j = k
    · subst hjk
      rw [if_pos rfl] at ht
      rw [if_neg (by omega)]
      intro e
      have a1 := ((inn i hij).lt t e.symm).2
      have a2 := (or2.lt t ht).1
      omega
    · rw [if_neg hjk] at ht
      rw [if_neg (by omega)]
      exact ap i j hij (by omega) t ht
  · rw [e1]
    exact r2.chg cX sN
  · have en : NE w2 D := env.chg cA
    have hsz := bw.size
    exact ⟨en.tab.chg cX en.t0 (fun e => by have e : 0 = N := e; omega), Nat.lt_of_lt_of_le en.t0 cX.size, fun e => (hD1 _ e).elim en.tn (fun z => by omega)⟩
  · by_cases hjk : j = k
    · rw [if_pos hjk] at ht
      exact hrr t ht
    · rw [if_neg hjk] at ht
      intro e
      rcases hD1 t e with z | z
      · exact du j (by omega) t ht z
      · have := ((inn j (by omega)).lt t ht).2; omega
  · rcases hD1 t ht with z | z
    · exact db t z
    · have := bw.size; omega
  · have B1 : Below w0.heap.size wr w2 := ⟨cA.os, cA.tape, cA.output, cA.size, fun t ht => cA.block t (by have := bw.size; omega) (fun e => by have := db t e; omega)⟩
    have B2 : Below w0.heap.size w2 _ := ⟨cX.os, cX.tape, cX.output, cX.size, fun t ht => cX.block t (by have := bw.size; omega) (fun e => by have e : t = N := e; omega)⟩
    exact (bw.trans B1).trans B2
end Go.Proofs.YtpdclbfjngmppaaDoor

namespace Go.Proofs.YtpdclbfjngmppaaDoor
open Go.RowKit
set_option linter.unusedVariables false
set_option linter.unusedSimpArgs false

set_option maxRecDepth 20000 in
set_option maxHeartbeats 4000000 in
theorem runAllS (g : Nat) (v : Value) (R : List SSendOp) (w0 w : World) (D0 : Nat → Prop) (hbel : Below w0.heap.size w0 w) (row : BRow 5 SSendOp.c SSendOp.d w0 v R) (hn : R.length ≤ 400)
    (hd : ∀ j, j < R.length → (R.getD j default).d.length ≤ 140737488355328) (hof : ∀ j, j < R.length → (R.getD j default).f2 ≤ 9223372036854775807) (hE : NE w D0) (hR : PRep w D0 g w0.heap.size (srun R 0).1) (hD0 : ∀ t, D0 t → w0.heap.size ≤ t) (h0 : 0 < w0.heap.size) :
    Calls Tryd.prog 15 #[v, .func (.func 17) #[.pointer (some ⟨g, 0, none⟩)] #[]] w fun e w' => ∃ r, e = .returned r ∧ BOwns 30 7 SSendObs.c SSendObs.d w' w0.heap.size r (srun R R.length).2 ∧ Below w0.heap.size w0 w' := by
  obtain ⟨ao, cp, ev⟩ := row.form
  obtain ⟨i0, hi, hz0, hz1, hz2⟩ := info_parts infoSendObs
  obtain ⟨n, en⟩ : ∃ n, n = R.length := ⟨_, rfl⟩
  have HH : Hid _ := And.intro row (And.intro hd (And.intro hof (And.intro hE (And.intro hR (And.intro hbel (And.intro en (And.intro hD0 h0)))))))
  have hbz := hbel.size
  rw [← en] at hn ⊢
  rw [← en] at ev
  subst ev
  clear row hd hof hE hR en hbel hD0 h0
  go_enter Tryd.func15, Tryd.ntmps15
  go_wp2_with (at_make; refine wpList_make_full _ rfl _ _ 25 rfl w.heap.size 30 i0 (.agg #[.int .i64 0, .int .i64 0, .int .i64 0, .slice none 0 0, .bool false, .bool false, .bool false]) 7 Tryd.underlying25 hi hz0 hz1 .i64 .i64 (n : Int) (n : Int) n rfl rfl rfl rfl (by rw [hz2]; omega) (by unfold maxLen; omega) (Nat.le_refl _) ?_; intro w1 hown hg)
  have H1 : Hid _ := And.intro hown ((Below.refl w.heap.size w).grown hg (Nat.le_refl _) (by intro k hk; cases hk))
  clear hown hg
  go_loopg [13] n (fun q i wr => ∃ k : Nat, k ≤ n ∧ q = n - k ∧ i = .int .i64 (k : Int) ∧ RunKI g w0.heap.size R w0 wr w.heap.size n k)
  case atStart =>
    obtain ⟨-, -, -, hE, hR, hbel, e0, hD0, h0⟩ := HH.out
    have hlt := hR.lt
    refine ⟨0, by omega, by omega, rfl, _, fun _ => .slice none 0 0, D0, by have := H1.out.1.1; simpa using this, H1.out.1, fun j hj => by omega, fun j hj => by omega, fun i j _ hj => by omega, hR.below H1.out.2, hE.below H1.out.2, fun e => by have := hlt _ e; omega, fun j hj => by omega, hD0, hbel.trans (H1.out.2.mono hbel.size)⟩
  case round =>
    obtain ⟨k, hk, hq, rfl, zs, U, D, H2⟩ := hrel
    by_cases hlt : k < n
    · obtain ⟨b, off, cap, ev, hbl, U0, hc, hr⟩ := HH.out.1.at' (by have := HH.out.2.2.2.2.2.2.1; omega)
      simp only [Value.slice.injEq] at ev
      obtain ⟨rfl, em2, rfl⟩ := ev
      clear em2
      have e0 := HH.out.2.2.2.2.2.2.1
      have hck := hc k (by omega)
      obtain ⟨uk, euk⟩ : ∃ u, u = U0 k := ⟨_, rfl⟩
      have hrk := (hr k (by omega)).below H2.bw
      rw [← euk] at hck hrk
      have hgl : w.heap.size < wr.heap.size := (H2.ow.lt w.heap.size rfl).2
      obtain ⟨o, eo⟩ : ∃ o, o = R.getD k default := ⟨_, rfl⟩
      have hdk := HH.out.2.1 k (by omega)
      have hfk := HH.out.2.2.1 k (by omega)
      rw [← eo] at hck hrk hdk hfk
      have c0 : wr.cell? ⟨b, off + k * 5, none⟩ = some (.int .i64 o.f0) := (H2.bw.cell (p := ⟨b, off + (k * 5 + 0), none⟩) hbl).trans (hck 0 (by omega))
      have c1 : wr.cell? ⟨b, off + k * 5 + 1, none⟩ = some (.int .i64 o.f1) := (H2.bw.cell (p := ⟨b, off + (k * 5 + 1), none⟩) hbl).trans (hck 1 (by omega))
      have c2 : wr.cell? ⟨b, off + k * 5 + 2, none⟩ = some (.int .i64 o.f2) := (H2.bw.cell (p := ⟨b, off + (k * 5 + 2), none⟩) hbl).trans (hck 2 (by omega))
      have c3 : wr.cell? ⟨b, off + k * 5 + 3, none⟩ = some (uk) := (H2.bw.cell (p := ⟨b, off + (k * 5 + 3), none⟩) hbl).trans (hck 3 (by omega))
      have c4 : wr.cell? ⟨b, off + k * 5 + 4, none⟩ = some (.bool o.f4) := (H2.bw.cell (p := ⟨b, off + (k * 5 + 4), none⟩) hbl).trans (hck 4 (by omega))
      have BA : Below wr.heap.size wr (wr.alloc (.cells #[.int .i64 o.f0, .int .i64 o.f1, .int .i64 o.f2, uk, .bool o.f4] 32)) := (Below.refl _ _).alloc (Nat.le_refl _) _
      have hcr := srun_cr R (fun j hj => HH.out.2.2.1 j hj) k (by omega)
      have C := runS g w0.heap.size (srun R k).1 o uk D _ (H2.env.below BA) (srun_SI R k) (srun_SI2 R k) hcr (H2.rep.below BA) (hrk.below BA) hdk hfk (by have := H2.bw.size; have := BA.size; omega)
      obtain ⟨ua, uc, eu⟩ := hrk.form
      obtain ⟨un, eun⟩ : ∃ un, un = o.d.length := ⟨_, rfl⟩
      rw [← eun] at eu
      have H4 : Hid _ := And.intro C (And.intro eo BA)
      clear C hck hrk hc hr euk eo eun e0 hcr
      obtain ⟨x0, x1, x2, x3, x4⟩ := o
      subst eu
      dsimp only at *
      have H2H : Hid _ := And.intro H2 True.intro
      clear H2
      go_wp2_with fail
      refine H4.out.1.mono ?_
      rintro e w2 ⟨r, rfl, or2, l2, ch2⟩
      obtain ⟨S, eS⟩ : ∃ S, S = sstep (srun R k).1 ⟨x0, x1, x2, x3, x4⟩ := ⟨_, rfl⟩
      rw [← eS] at or2 l2
      rw [← eS]
      have chA : Chg D wr w2 := (Chg.of_below H4.out.2.2).trans ch2
      have ow2 : w2.ownsRow w.heap.size 30 7 (.slice (some ⟨w.heap.size, 0, none⟩) n n) n zs := ownsChg chA H2H.out.1.ow (fun t ht e => by simp [Value.ownBlock] at ht; subst ht; exact H2H.out.1.dr e)
      have h2z := chA.size
      obtain ⟨aor, cpr, hrr⟩ := (row_of_owns or2).form
      obtain ⟨rn, ern⟩ : ∃ rn, rn = S.2.f3.length := ⟨_, rfl⟩
      rw [← ern] at hrr
      obtain ⟨q0, eq0⟩ : ∃ x, x = S.2.f0 := ⟨_, rfl⟩
      obtain ⟨q1, eq1⟩ : ∃ x, x = S.2.f1 := ⟨_, rfl⟩
      obtain ⟨q2, eq2⟩ : ∃ x, x = S.2.f2 := ⟨_, rfl⟩
      obtain ⟨q4, eq4⟩ : ∃ x, x = S.2.f4 := ⟨_, rfl⟩
      obtain ⟨q5, eq5⟩ : ∃ x, x = S.2.f5 := ⟨_, rfl⟩
      obtain ⟨q6, eq6⟩ : ∃ x, x = S.2.f6 := ⟨_, rfl⟩
      rw [← eq0, ← eq1, ← eq2, ← eq4, ← eq5, ← eq6]
      have d0 : k * 7 < n * 7 := by omega
      have s0 : w2.cell? ⟨w.heap.size, k * 7, none⟩ = zs[k * 7]? := ow2.cellAt (k * 7) d0
      obtain ⟨z0, hz0'⟩ : ∃ z, zs[k * 7]? = some z := ⟨zs[k * 7]'(by have := H2H.out.1.zl; omega), by simp [H2H.out.1.zl, d0]⟩
      rw [hz0'] at s0
      have f0 := ow2.frozenAt (k * 7)
      have d1 : k * 7 + 1 < n * 7 := by omega
      have s1 : w2.cell? ⟨w.heap.size, k * 7 + 1, none⟩ = zs[k * 7 + 1]? := ow2.cellAt (k * 7 + 1) d1
      obtain ⟨z1, hz1'⟩ : ∃ z, zs[k * 7 + 1]? = some z := ⟨zs[k * 7 + 1]'(by have := H2H.out.1.zl; omega), by simp [H2H.out.1.zl, d1]⟩
      rw [hz1'] at s1
      have f1 := ow2.frozenAt (k * 7 + 1)
      have d2 : k * 7 + 2 < n * 7 := by omega
      have s2 : w2.cell? ⟨w.heap.size, k * 7 + 2, none⟩ = zs[k * 7 + 2]? := ow2.cellAt (k * 7 + 2) d2
      obtain ⟨z2, hz2'⟩ : ∃ z, zs[k * 7 + 2]? = some z := ⟨zs[k * 7 + 2]'(by have := H2H.out.1.zl; omega), by simp [H2H.out.1.zl, d2]⟩
      rw [hz2'] at s2
      have f2 := ow2.frozenAt (k * 7 + 2)
      have d3 : k * 7 + 3 < n * 7 := by omega
      have s3 : w2.cell? ⟨w.heap.size, k * 7 + 3, none⟩ = zs[k * 7 + 3]? := ow2.cellAt (k * 7 + 3) d3
      obtain ⟨z3, hz3'⟩ : ∃ z, zs[k * 7 + 3]? = some z := ⟨zs[k * 7 + 3]'(by have := H2H.out.1.zl; omega), by simp [H2H.out.1.zl, d3]⟩
      rw [hz3'] at s3
      have f3 := ow2.frozenAt (k * 7 + 3)
      have d4 : k * 7 + 4 < n * 7 := by omega
      have s4 : w2.cell? ⟨w.heap.size, k * 7 + 4, none⟩ = zs[k * 7 + 4]? := ow2.cellAt (k * 7 + 4) d4
      obtain ⟨z4, hz4'⟩ : ∃ z, zs[k * 7 + 4]? = some z := ⟨zs[k * 7 + 4]'(by have := H2H.out.1.zl; omega), by simp [H2H.out.1.zl, d4]⟩
      rw [hz4'] at s4
      have f4 := ow2.frozenAt (k * 7 + 4)
      have d5 : k * 7 + 5 < n * 7 := by omega
      have s5 : w2.cell? ⟨w.heap.size, k * 7 + 5, none⟩ = zs[k * 7 + 5]? := ow2.cellAt (k * 7 + 5) d5
      obtain ⟨z5, hz5'⟩ : ∃ z, zs[k * 7 + 5]? = some z := ⟨zs[k * 7 + 5]'(by have := H2H.out.1.zl; omega), by simp [H2H.out.1.zl, d5]⟩
      rw [hz5'] at s5
      have f5 := ow2.frozenAt (k * 7 + 5)
      have d6 : k * 7 + 6 < n * 7 := by omega
      have s6 : w2.cell? ⟨w.heap.size, k * 7 + 6, none⟩ = zs[k * 7 + 6]? := ow2.cellAt (k * 7 + 6) d6
      obtain ⟨z6, hz6'⟩ : ∃ z, zs[k * 7 + 6]? = some z := ⟨zs[k * 7 + 6]'(by have := H2H.out.1.zl; omega), by simp [H2H.out.1.zl, d6]⟩
      rw [hz6'] at s6
      have f6 := ow2.frozenAt (k * 7 + 6)
      have sz1 : wr.heap.size ≤ (wr.alloc (.cells #[.int .i64 x0, .int .i64 x1, .int .i64 x2, .slice ua un uc, .bool x4] 32)).heap.size + 3 := by simp; omega
      have H3 : Hid _ := And.intro (owns_mono or2 sz1) (And.intro (l2.mono sz1) chA)
      have HQ : Hid _ := And.intro eq0 (And.intro eq1 (And.intro eq2 (And.intro eq4 (And.intro eq5 (And.intro eq6 (And.intro eS hrr))))))
      clear ow2 or2 l2 chA ch2 eq0 eq1 eq2 eq4 eq5 eq6 eS ern hz0' hz1' hz2' hz3' hz4' hz5' hz6' sz1
      subst hrr
      go_wp2
      go_roundg (n - (k + 1))
      case measure => omega
      case rel =>
        obtain ⟨eq0, eq1, eq2, eq4, eq5, eq6, eS, -⟩ := HQ.out
        rw [H4.out.2.1] at eS
        exact ⟨k + 1, by omega, rfl, by go_num, RunK.next H2H.out.1 hlt hbz HH.out.2.2.2.2.2.2.2.2 S eS _ q0 q1 q2 q4 q5 q6 eq0 eq1 eq2 eq4 eq5 eq6 H3.out.2.2 H3.out.2.1 H3.out.1⟩
    · obtain rfl : k = n := by omega
      have H2H : Hid _ := And.intro H2 True.intro
      clear H2
      go_wp2
      go_ret
      have e0 := HH.out.2.2.2.2.2.2.1
      obtain ⟨zl, ow, cs, inn, ap, rep, env, dr, du, db, bw⟩ := H2H.out.1
      refine ⟨_, rfl, ⟨U, ⟨zs, by rw [zl_length, srun_length]; exact owns_mono ow hbz, fun j hj f hf => ?_⟩, fun j hj => ?_, fun i j hij hj => ap i j hij (by rw [srun_length] at hj; exact hj)⟩, bw⟩
      · rw [zl_length, srun_length] at hj
        rw [zl_at _ _ _ _ (by rw [srun_length]; exact hj), srun_at R j k hj]
        exact cs j hj f hf
      · rw [srun_length] at hj
        rw [srun_at R j k hj]
        exact owns_mono (inn j hj) (by omega)
set_option maxRecDepth 20000 in
set_option maxHeartbeats 1000000 in
theorem newS (w : World) :
    Calls Tryd.prog 16 #[] w fun e w' => e = .returned (.pointer (some ⟨w.heap.size, 0, none⟩)) ∧ PRep w' (fun t => t = w.heap.size) w.heap.size w.heap.size ⟨0, 0, 0, 0, false, [], []⟩ ∧ Below w.heap.size w w' := by
  go_enter Tryd.func16, Tryd.ntmps16
  go_wp2
  go_ret
  refine ⟨rfl, ⟨.slice none 0 0, .slice none 0 0, heap_alloc_new w _, ⟨World.ownsRow_nil _ _ _ _, World.ownsRow_nil _ _ _ _, rfl, (fun t ht => nomatch ht), (fun t ht => nomatch ht), fun t (ht : t = w.heap.size) => by rw [ht]; simp, Nat.le_refl _⟩⟩, (Below.refl _ _).alloc (Nat.le_refl _) _⟩
/-- What SendRun answers. -/
def srY (R : List SSendOp) : List SSendObs := if 400 < R.length then [] else (srun R R.length).2
def srC (R : List SSendOp) : Int := if 400 < R.length then 4 else 0
set_option maxRecDepth 20000 in
set_option maxHeartbeats 1000000 in
theorem implSR (v : Value) (R : List SSendOp) (w : World) (ht : TabF w) (h0 : 0 < w.heap.size) (row : BRow 5 SSendOp.c SSendOp.d w v R) (hl : R.length ≤ 140737488355328)
    (hd : ∀ j, j < R.length → (R.getD j default).d.length ≤ 140737488355328) (hof : ∀ j, j < R.length → (R.getD j default).f2 ≤ 9223372036854775807) :
    Calls Tryd.prog 6 #[v] w fun e w' => ∃ r, e = .returned (.tuple #[r, .int .i64 (srC R)]) ∧ BOwns 30 7 SSendObs.c SSendObs.d w' w.heap.size r (srY R) ∧ Below w.heap.size w w' := by
  obtain ⟨ao, cp, ev⟩ := row.form
  by_cases a1 : 400 < R.length
  · have e1 : srC R = 4 := by unfold srC; rw [if_pos a1]
    have e2 : srY R = [] := by unfold srY; rw [if_pos a1]
    rw [e1, e2, ev]
    have a1' : (400 : Int) < (R.length : Int) := by omega
    generalize R.length = n at *
    clear row hd hof
    go_enter Tryd.func6, Tryd.ntmps6
    go_wp2
    go_ret2
    exact ⟨_, rfl, BOwns.nilB _ _ _ _ _ _, Below.refl _ _⟩
  have e1 : srC R = 0 := by unfold srC; rw [if_neg a1]
  have e2 : srY R = (srun R R.length).2 := by unfold srY; rw [if_neg a1]
  rw [e1, e2]
  have C := newS w
  have C2 : ∀ w1 : World, PRep w1 (fun t => t = w.heap.size) w.heap.size w.heap.size ⟨0, 0, 0, 0, false, [], []⟩ → Below w.heap.size w w1 → Calls Tryd.prog 15 #[v, .func (.func 17) #[.pointer (some ⟨w.heap.size, 0, none⟩)] #[]] w1 fun e w' => ∃ r, e = .returned r ∧ BOwns 30 7 SSendObs.c SSendObs.d w' w.heap.size r (srun R R.length).2 ∧ Below w.heap.size w w' := fun w1 hr hb =>
    runAllS w.heap.size v R w w1 (fun t => t = w.heap.size) hb row (by omega) hd hof ⟨ht.below hb h0, Nat.lt_of_lt_of_le h0 hb.size, fun e => by have e : 0 = w.heap.size := e; omega⟩ hr (fun t ht => by have e : t = w.heap.size := ht; omega) h0
  have a1' : ¬ (400 : Int) < (R.length : Int) := by omega
  have HH : Hid _ := And.intro C C2
  rw [ev] at HH ⊢
  generalize (srun R R.length).2 = Y at *
  generalize R.length = n at *
  clear row hd hof C C2 e1 e2 ev ht h0 hl
  go_enter Tryd.func6, Tryd.ntmps6
  go_wp2_with (first | (go_at_call 16; refine HH.out.1.mono ?_; rintro e w1 ⟨rfl, r1, b1⟩) | (go_at_call 15; refine (HH.out.2 _ r1 b1).mono ?_; rintro e w2 ⟨r, rfl, o2, b2⟩))
  go_ret2
  exact ⟨_, rfl, o2, b2⟩
end Go.Proofs.YtpdclbfjngmppaaDoor
