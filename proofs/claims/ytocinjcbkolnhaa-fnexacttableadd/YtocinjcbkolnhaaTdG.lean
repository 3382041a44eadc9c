import Derived.Test.YtocinjcbkolnhaaTdF
import Derived.Test.YtocinjcbkolnhaaTdE
import Derived.Test.YtocinjcbkolnhaaTcZ
namespace Go.Proofs.Ytocinjcbkolnhaa
open Go.RowKit
set_option linter.unusedVariables false

/-- The two arguments in their boxes. -/
structure AB (w u : World) (mo ca ad : Int) (s : Value) (a c : ByteArray) : Prop where
  kT : u.heap[w.heap.size]? = some (.cells #[.int .i64 mo, .int .i64 ca, .int .i64 ad, s] 24 (0, 0))
  kF : u.heap[w.heap.size + 1]? = some (.cells #[.string a, .string c] 26 (0, 0))
  bw : Below w.heap.size w u
theorem AB.lt {w u : World} {mo ca ad : Int} {s : Value} {a c : ByteArray} (h : AB w u mo ca ad s a c) : w.heap.size + 1 < u.heap.size := (Array.getElem?_eq_some_iff.1 h.kF).1
theorem AB.next {w u u' : World} {mo ca ad : Int} {s : Value} {a c : ByteArray} (h : AB w u mo ca ad s a c) (hb : Below u.heap.size u u') : AB w u' mo ca ad s a c :=
  ⟨(hb.block _ (by have := h.lt; omega)).trans h.kT, (hb.block _ h.lt).trans h.kF, h.bw.trans (hb.mono h.bw.size)⟩
theorem AB.new (w : World) (mo ca ad : Int) (s : Value) (a c : ByteArray) : AB w ((w.alloc (.cells #[.int .i64 mo, .int .i64 ca, .int .i64 ad, s] 24)).alloc (.cells #[.string a, .string c] 26)) mo ca ad s a c := by
  have k0 := heap_alloc_new w (.cells #[.int .i64 mo, .int .i64 ca, .int .i64 ad, s] 24)
  have b1 : Below (w.alloc (.cells #[.int .i64 mo, .int .i64 ca, .int .i64 ad, s] 24)).heap.size (w.alloc (.cells #[.int .i64 mo, .int .i64 ca, .int .i64 ad, s] 24)) ((w.alloc (.cells #[.int .i64 mo, .int .i64 ca, .int .i64 ad, s] 24)).alloc (.cells #[.string a, .string c] 26)) := (Below.refl _ _).alloc (Nat.le_refl _) _
  have k1 := heap_alloc_new (w.alloc (.cells #[.int .i64 mo, .int .i64 ca, .int .i64 ad, s] 24)) (.cells #[.string a, .string c] 26)
  rw [show (w.alloc (.cells #[.int .i64 mo, .int .i64 ca, .int .i64 ad, s] 24)).heap.size = w.heap.size + 1 by simp] at k1
  exact ⟨(b1.block _ (by simp)).trans k0, k1, ((Below.refl _ _).alloc (Nat.le_refl _) _).trans (b1.mono (by simp))⟩
theorem fb2 {u : World} {b : Nat} {x y : ByteArray} {T : TypeId} (h : u.heap[b]? = some (.cells #[.string x, .string y] T (0, 0))) : u.cell? ⟨b, 0, none⟩ = some (.string x) ∧ u.cell? ⟨b, 1, none⟩ = some (.string y) :=
  ⟨by rw [bk_cell h]; rfl, by rw [bk_cell h]; rfl⟩
/-- The block that was laid ahead of a call. -/
theorem nbD {u w' : World} (b : Below (u.alloc (.cells #[.int .i64 0, .int .i64 0, .int .i64 0, .slice none 0 0] 31)).drew.heap.size (u.alloc (.cells #[.int .i64 0, .int .i64 0, .int .i64 0, .slice none 0 0] 31)).drew w') : w'.heap[u.heap.size]? = some (.cells #[.int .i64 0, .int .i64 0, .int .i64 0, .slice none 0 0] 31) := (b.block _ (by show _ < (u.alloc (.cells #[.int .i64 0, .int .i64 0, .int .i64 0, .slice none 0 0] 31)).heap.size; simp)).trans (heap_alloc_new u (.cells #[.int .i64 0, .int .i64 0, .int .i64 0, .slice none 0 0] 31))
theorem nbA {u w' : World} (b : Below (u.alloc (.cells #[.int .i64 0, .int .i64 0, .int .i64 0, .slice none 0 0] 31)).heap.size (u.alloc (.cells #[.int .i64 0, .int .i64 0, .int .i64 0, .slice none 0 0] 31)) w') : w'.heap[u.heap.size]? = some (.cells #[.int .i64 0, .int .i64 0, .int .i64 0, .slice none 0 0] 31) := (b.block _ (by simp)).trans (heap_alloc_new u (.cells #[.int .i64 0, .int .i64 0, .int .i64 0, .slice none 0 0] 31))
theorem nbK {u w' : World} {N : Nat} (b : Below u.heap.size u w') (k : u.heap[N]? = some (.cells #[.int .i64 0, .int .i64 0, .int .i64 0, .slice none 0 0] 31)) : w'.heap[N]? = some (.cells #[.int .i64 0, .int .i64 0, .int .i64 0, .slice none 0 0] 31) := (b.block _ (Array.getElem?_eq_some_iff.1 k).1).trans k
theorem nbL {u w' : World} {r : Value} {L : List (List Value)} (o : GOwns 35 2 w' (u.alloc (.cells #[.int .i64 0, .int .i64 0, .int .i64 0, .slice none 0 0] 31)).heap.size r L) : ∀ k, r.ownBlock = some k → u.heap.size < k := fun k hk => by have := (o.ltF k hk).1; simp at this; omega
theorem nbM {u w' : World} {N : Nat} {r : Value} {L : List (List Value)} (h : u.heap[N]? = some (.cells #[.int .i64 0, .int .i64 0, .int .i64 0, .slice none 0 0] 31)) (o : GOwns 35 2 w' u.heap.size r L) : ∀ k, r.ownBlock = some k → N < k := fun k hk => Nat.lt_of_lt_of_le (Array.getElem?_eq_some_iff.1 h).1 (o.ltF k hk).1
/-- A call's answer in a box of its own. -/
def RB (u0 wx : World) (xm xc xa : Int) (xe : List SField) (p cv : Value) (code : Int) : Prop :=
  ∃ (N : Nat) (r : Value), p = .pointer (some ⟨N, 0, none⟩) ∧ cv = .int .i64 code ∧ wx.heap[N]? = some (.cells #[.int .i64 xm, .int .i64 xc, .int .i64 xa, r] 31 (0, 0)) ∧ GOwns 35 2 wx u0.heap.size r (SField.L xe) ∧ Below u0.heap.size u0 wx ∧ u0.heap.size ≤ N ∧ ∀ k, r.ownBlock = some k → k ≠ N
theorem RB.of_set {u0 u : World} {xm xc xa code : Int} {xe : List SField} {N : Nat} {r : Value} (D : Below u0.heap.size u0 u) (kN : u.heap[N]? = some (.cells #[.int .i64 0, .int .i64 0, .int .i64 0, .slice none 0 0] 31)) (hN : ∀ k, r.ownBlock = some k → k ≠ N) (hlo : u0.heap.size ≤ N) (o : GOwns 35 2 u u0.heap.size r (SField.L xe)) :
    RB u0 ((((u.setCell ⟨N, 0, none⟩ (.int .i64 xm)).setCell ⟨N, 1, none⟩ (.int .i64 xc)).setCell ⟨N, 2, none⟩ (.int .i64 xa)).setCell ⟨N, 3, none⟩ r) xm xc xa xe (.pointer (some ⟨N, 0, none⟩)) (.int .i64 code) code := by
  have st : ∀ {x : World} {i : Nat} {v : Value}, GOwns 35 2 x u0.heap.size r (SField.L xe) → GOwns 35 2 (x.setCell ⟨N, i, none⟩ v) u0.heap.size r (SField.L xe) := fun {x i v} h => GOwns.only (Only.setCell (w := x) ⟨N, i, none⟩ v) h (fun k hk e => hN k hk (by have := Option.some.inj e; simp only at this; omega))
  exact ⟨N, r, rfl, rfl, (bk_set (bk_set (bk_set (bk_set kN 0 _) 1 _) 2 _) 3 _).trans rfl, st (st (st (st o))), (((D.setCell hlo _).setCell hlo _).setCell hlo _).setCell hlo _, hlo, hN⟩
theorem RB.of_new {u0 u : World} {xm xc xa code : Int} {xe : List SField} {r : Value} (D : Below u0.heap.size u0 u) (hN : ∀ k, r.ownBlock = some k → k ≠ u.heap.size) (o : GOwns 35 2 u u0.heap.size r (SField.L xe)) :
    RB u0 (u.alloc (.cells #[.int .i64 xm, .int .i64 xc, .int .i64 xa, r] 31)) xm xc xa xe (.pointer (some ⟨u.heap.size, 0, none⟩)) (.int .i64 code) code :=
  ⟨_, r, rfl, rfl, heap_alloc_new _ _, o.below ((Below.refl _ _).alloc (Nat.le_refl _) _), D.trans (((Below.refl _ _).alloc (Nat.le_refl _) _).mono D.size), D.size, hN⟩
/-- What the law holds. -/
structure LT (w u : World) (b6 b8 b9 : Nat) (mo ca ad : Int) (s : Value) (a c : ByteArray) (xm xc xa : Int) (xe : List SField) (r3 r4 r6 : Value) (L4 L6 : List SField) : Prop where
  ab : AB w u mo ca ad s a c
  k6 : u.heap[b6]? = some (.cells #[.int .i64 xm, .int .i64 xc, .int .i64 xa, r3] 31 (0, 0))
  k8 : u.heap[b8]? = some (.cells #[.int .i64 mo, .int .i64 ca, .int .i64 ad, r4] 31 (0, 0))
  k9 : u.heap[b9]? = some (.cells #[.int .i64 xm, .int .i64 xc, .int .i64 xa, r6] 31 (0, 0))
  o3 : GOwns 35 2 u (w.heap.size + 2) r3 (SField.L xe)
  o4 : GOwns 35 2 u (w.heap.size + 2) r4 (SField.L L4)
  o6 : GOwns 35 2 u (w.heap.size + 2) r6 (SField.L L6)
  n4 : ∀ k, r4.ownBlock = some k → k ≠ b6 ∧ k ≠ b8 ∧ k ≠ b9 ∧ r3.ownBlock ≠ some k ∧ r6.ownBlock ≠ some k
  n6 : ∀ k, r6.ownBlock = some k → k ≠ b6 ∧ k ≠ b8 ∧ k ≠ b9 ∧ r3.ownBlock ≠ some k ∧ r4.ownBlock ≠ some k
section
variable {w u u' : World} {b6 b8 b9 : Nat} {mo ca ad : Int} {s : Value} {a c : ByteArray} {xm xc xa : Int} {xe : List SField} {r3 r4 r6 : Value} {L4 L6 P : List SField}
theorem LT.next (h : LT w u b6 b8 b9 mo ca ad s a c xm xc xa xe r3 r4 r6 L4 L6) (hb : Below u.heap.size u u') : LT w u' b6 b8 b9 mo ca ad s a c xm xc xa xe r3 r4 r6 L4 L6 :=
  ⟨h.ab.next hb, (hb.block _ (Array.getElem?_eq_some_iff.1 h.k6).1).trans h.k6, (hb.block _ (Array.getElem?_eq_some_iff.1 h.k8).1).trans h.k8, (hb.block _ (Array.getElem?_eq_some_iff.1 h.k9).1).trans h.k9, h.o3.below hb, h.o4.below hb, h.o6.below hb, h.n4, h.n6⟩
theorem LT.mark4 (h : LT w u b6 b8 b9 mo ca ad s a c xm xc xa xe r3 r4 r6 L4 L6) (c4 : ChgF (oB r4) u u') (o : GOwns 35 2 u' (w.heap.size + 2) r4 (SField.L P)) : LT w u' b6 b8 b9 mo ca ad s a c xm xc xa xe r3 r4 r6 P L6 := by
  have hl := h.ab.lt
  have g4 : ∀ k, oB r4 k → w.heap.size + 2 ≤ k := fun k hk => (h.o4.ltF k hk).1
  exact ⟨⟨(c4.block _ (by omega) (fun e => by have := g4 _ e; omega)).trans h.ab.kT, (c4.block _ (by omega) (fun e => by have := g4 _ e; omega)).trans h.ab.kF, h.ab.bw.trans (c4.below h.ab.bw.size (fun k hk => by have := g4 _ hk; omega))⟩,
    (c4.block _ (Array.getElem?_eq_some_iff.1 h.k6).1 (fun e => (h.n4 _ e).1 rfl)).trans h.k6, (c4.block _ (Array.getElem?_eq_some_iff.1 h.k8).1 (fun e => (h.n4 _ e).2.1 rfl)).trans h.k8, (c4.block _ (Array.getElem?_eq_some_iff.1 h.k9).1 (fun e => (h.n4 _ e).2.2.1 rfl)).trans h.k9,
    h.o3.chg c4 (fun k hk e => (h.n4 k e).2.2.2.1 hk), o, h.o6.chg c4 (fun k hk e => (h.n4 k e).2.2.2.2 hk), h.n4, h.n6⟩
theorem LT.mark6 (h : LT w u b6 b8 b9 mo ca ad s a c xm xc xa xe r3 r4 r6 L4 L6) (c6 : ChgF (oB r6) u u') (o : GOwns 35 2 u' (w.heap.size + 2) r6 (SField.L P)) : LT w u' b6 b8 b9 mo ca ad s a c xm xc xa xe r3 r4 r6 L4 P := by
  have hl := h.ab.lt
  have g6 : ∀ k, oB r6 k → w.heap.size + 2 ≤ k := fun k hk => (h.o6.ltF k hk).1
  exact ⟨⟨(c6.block _ (by omega) (fun e => by have := g6 _ e; omega)).trans h.ab.kT, (c6.block _ (by omega) (fun e => by have := g6 _ e; omega)).trans h.ab.kF, h.ab.bw.trans (c6.below h.ab.bw.size (fun k hk => by have := g6 _ hk; omega))⟩,
    (c6.block _ (Array.getElem?_eq_some_iff.1 h.k6).1 (fun e => (h.n6 _ e).1 rfl)).trans h.k6, (c6.block _ (Array.getElem?_eq_some_iff.1 h.k8).1 (fun e => (h.n6 _ e).2.1 rfl)).trans h.k8, (c6.block _ (Array.getElem?_eq_some_iff.1 h.k9).1 (fun e => (h.n6 _ e).2.2.1 rfl)).trans h.k9,
    h.o3.chg c6 (fun k hk e => (h.n6 k e).2.2.2.1 hk), h.o4.chg c6 (fun k hk e => (h.n6 k e).2.2.2.2 hk), o, h.n4, h.n6⟩
end
theorem taR_len (t : TB) (a c : ByteArray) : (taR t a c).1.es.length ≤ 1048576 := by
  unfold taR
  split
  · simp
  · rename_i h
    split
    · simp
    · have hK : tOK t = true := by cases e : tOK t with
        | true => rfl
        | false => exact absurd (Or.inl e) h
      have := (tg_len t hK).2
      simp
      omega
set_option maxRecDepth 20000 in
set_option maxHeartbeats 20000000 in
theorem ta_law (t : TB) (s : Value) (a c : ByteArray) (w : World) (h : GRow 2 w s (SField.L t.es)) (hf : fin t.es) (ha : a.size ≤ 9223372036854775807) (hc : c.size ≤ 9223372036854775807) (ho : (t.es.length : Int) + txs t.es + (a.size + c.size) ≤ 1048576) :
    Calls Try.prog 3 #[tV t s, .agg #[.string a, .string c]] w fun e w' => e = .returned (.bool true) ∧ Below w.heap.size w w' := by
  have h0 := txs_nn t.es
  have hn : t.es.length ≤ 1048576 := by omega
  have ht : txs t.es + a.size + c.size ≤ 1048576 := by omega
  have A0 := AB.new w t.mo t.ca t.ad s a c
  have C1 := szTab t s 1048576 (1048576 - (t.es.length + txs t.es)) _ (h.below A0.bw) (by omega) (by decide) (by decide) hf (by rw [if_pos (by omega)])
  have C2 : ∀ u, _ := fun u => szFld a c (1048576 - (t.es.length + txs t.es)) (1048576 - (t.es.length + txs t.es) - (a.size + c.size)) u (by omega) (by omega) ha hc (by rw [if_pos (by omega)])
  have DT : ∀ u, Below w.heap.size w u → Calls Try.prog 7 #[tV t s] u fun e w' => ∃ r, e = .returned (tV t r) ∧ GOwns 35 2 w' u.heap.size r (SField.L t.es) ∧ Below u.heap.size u w' := fun u hb => toTab t s u (h.below hb) hn
  have DS : ∀ u r, Below w.heap.size w u → GRow 2 u r (SField.L t.es) → _ := fun u r _ hr => taS t r a c u hr hn ht
  have DI : ∀ u r, Below w.heap.size w u → GRow 2 u r (SField.L t.es) → _ := fun u r _ hr => taI t r a c u hr hn ht
  have DE : ∀ u r r', GRow 2 u r (SField.L t.es) → GRow 2 u r' (SField.L t.es) → _ := fun u r r' h1 h2 => eqTab t r r' u h1 h2 hn
  have hnX := taR_len t a c
  obtain ⟨R1, eR1⟩ : ∃ R, R = 1048576 - ((t.es.length : Int) + txs t.es) := ⟨_, rfl⟩
  obtain ⟨R2, eR2⟩ : ∃ R, R = R1 - ((a.size : Int) + c.size) := ⟨_, rfl⟩
  have p1 : 0 ≤ R1 := by omega
  have p2 : 0 ≤ R2 := by omega
  rw [← eR1] at C1 C2
  rw [← eR2] at C2
  obtain ⟨K, eK⟩ : ∃ K, K = taR t a c := ⟨_, rfl⟩
  rw [← eK] at DS DI hnX
  obtain ⟨X, code⟩ := K
  simp only at DS DI hnX
  have DX : ∀ u r r', GRow 2 u r (SField.L X.es) → GRow 2 u r' (SField.L X.es) → _ := fun u r r' h1 h2 => eqTab X r r' u h1 h2 hnX
  have DM4 : ∀ (u : World) (r : Value) (b : Nat), GOwns 35 2 u b r (SField.L t.es) → _ := fun u r b o => markTab t r b u o hn
  have DM6 : ∀ (u : World) (r : Value) (b : Nat), GOwns 35 2 u b r (SField.L X.es) → _ := fun u r b o => markTab X r b u o hnX
  have DH : ∀ (u : World) (r : Value) (b : Nat) (P : List SField), GOwns 35 2 u b r (SField.L P) → MP P 1 X.es.length X.es.length → _ := fun u r b P o hP => heldTab X r P X.es.length b u o hP hnX
  have FF : Hid (∀ (u : World) (b : Nat) (r : Value), GOwns 35 2 u b r (SField.L t.es) → ∃ ao cp, r = .slice ao t.es.length cp) := fun u b r ho => frow_form ho.row
  have FX : Hid (∀ (u : World) (b : Nat) (r : Value), GOwns 35 2 u b r (SField.L X.es) → ∃ ao cp, r = .slice ao X.es.length cp) := fun u b r ho => frow_form ho.row
  obtain ⟨ao, cp, rfl⟩ := frow_form h
  obtain ⟨n, en⟩ : ∃ n, n = t.es.length := ⟨_, rfl⟩
  obtain ⟨m, em⟩ : ∃ m, m = X.es.length := ⟨_, rfl⟩
  rw [← en] at FF
  rw [← em] at FX
  have H : Hid _ := And.intro C1 (And.intro A0 C2)
  have HT : Hid _ := DT
  have HS : Hid _ := DS
  have HI : Hid _ := DI
  have HE : Hid _ := DE
  have HX : Hid _ := DX
  have G : Hid _ := And.intro DM4 (And.intro DM6 DH)
  rw [← en] at H HT G ⊢
  rw [← em] at G
  clear C1 A0 C2 DT DS DI DE DX DM4 DM6 DH h hf ho hn ht h0 eR1 eR2 eK en hnX em ha hc
  have hk : (code != code) = false := by simp
  obtain ⟨k4, e4⟩ : ∃ k4 : Int, k4 = 1 + 2 * (n : Int) := ⟨_, rfl⟩
  obtain ⟨k6, e6⟩ : ∃ k6 : Int, k6 = 1 + 2 * (m : Int) := ⟨_, rfl⟩
  have p4 : 0 ≤ k4 := by omega
  have p6 : 0 ≤ k6 := by omega
  have q6 : (k6 != k6) = false := by simp
  rw [← e4, ← e6] at G
  clear e4 e6
  unfold tV at *
  obtain ⟨mo, ca, ad, es⟩ := t
  obtain ⟨xm, xc, xa, xe⟩ := X
  simp only at *
  go_enter Try.func3, Try.ntmps3
  go_wp2_with fail
  go_at_call 4
  refine H.out.1.mono ?_
  rintro e w1 ⟨rfl, b1⟩
  have A1 := H.out.2.1.next b1
  obtain ⟨d0, d1⟩ := fb2 A1.kF
  have H1 : Hid _ := A1
  clear A1 b1
  go_wp2_with fail
  go_at_call 5
  refine (H.out.2.2 w1).mono ?_
  rintro e w2 ⟨rfl, b2⟩
  have HU : Hid (AB w w2 mo ca ad (.slice ao n cp) a c) := H1.out.next b2
  clear b2 d0 d1
  have DA : Below w2.heap.size w2 w2.drew := drew_below w2
  have EA : Below w2.heap.size w2 (w2.alloc (.cells #[.int .i64 0, .int .i64 0, .int .i64 0, .slice none 0 0] 31)).drew := ((Below.refl _ _).alloc (Nat.le_refl _) _).trans ((drew_below _).mono (by simp))
  obtain ⟨ca0, ca1, ca2, ca3⟩ := tb4 (HU.out.next DA).kT
  obtain ⟨fa0, fa1⟩ := fb2 (HU.out.next DA).kF
  obtain ⟨ca0', ca1', ca2', ca3'⟩ := tb4 (HU.out.next EA).kT
  obtain ⟨fa0', fa1'⟩ := fb2 (HU.out.next EA).kF
  have ga : w2.heap.size ≠ w.heap.size := by have := HU.out.lt; omega
  have ga' : w2.heap.size ≠ w.heap.size + 1 := by have := HU.out.lt; omega
  have HA : Hid _ := And.intro DA EA
  clear DA EA
  go_wp2_with fail
  go_cut [6, 7] from 26 to 33 (fun p cv wx => RB w2 wx xm xc xa xe p cv code)
  case first =>
    go_region_held3 (fun w' => w'.cell? ⟨w.heap.size, 0, none⟩ = some (.int .i64 mo) ∧ w'.cell? ⟨w.heap.size, 1, none⟩ = some (.int .i64 ca) ∧ w'.cell? ⟨w.heap.size, 2, none⟩ = some (.int .i64 ad) ∧ w'.cell? ⟨w.heap.size, 3, none⟩ = some (.slice ao n cp) ∧ w'.cell? ⟨w.heap.size + 1, 0, none⟩ = some (.string a) ∧ w'.cell? ⟨w.heap.size + 1, 1, none⟩ = some (.string c)) (go_keep)
      (first
      | (go_at_call 7; refine (HT.out _ (by first | exact HU.out.next HA.out.1 |>.bw | exact HU.out.next HA.out.2 |>.bw)).mono ?_; rintro e w3 ⟨r3, rfl, o3, b3⟩; obtain ⟨ra3, rc3, er3⟩ := FF.out _ _ _ o3; subst er3; clear ca0 ca1 ca2 ca3 fa0 fa1 ca0' ca1' ca2' ca3' fa0' fa1'; have D3 : Below w2.heap.size w2 w3 := (by first | exact HA.out.1.trans (b3.mono HA.out.1.size) | exact HA.out.2.trans (b3.mono HA.out.2.size)); have al3 : Below w3.heap.size w3 (w3.alloc (.cells #[.int .i64 0, .int .i64 0, .int .i64 0, .slice none 0 0] 31)) := (Below.refl _ _).alloc (Nat.le_refl _) _; have E3 := D3.trans (al3.mono D3.size); obtain ⟨c30, c31, c32, c33⟩ := tb4 (HU.out.next D3).kT; obtain ⟨f30, f31⟩ := fb2 (HU.out.next D3).kF; obtain ⟨c30', c31', c32', c33'⟩ := tb4 (HU.out.next E3).kT; obtain ⟨f30', f31'⟩ := fb2 (HU.out.next E3).kF; have g3 : w3.heap.size ≠ w.heap.size := (by have := D3.size; have := HU.out.lt; omega); have g3' : w3.heap.size ≠ w.heap.size + 1 := (by have := D3.size; have := HU.out.lt; omega); (try have kN := nbD b3); have H3 : Hid _ := And.intro D3 (And.intro E3 (And.intro o3.row (o3.row.below al3))); clear o3 b3 D3 E3 al3)
      | (go_at_call 8; refine (toField a c _).mono ?_; rintro e w4 ⟨rfl, b4⟩; clear c30 c31 c32 c33 f30 f31 c30' c31' c32' c33' f30' f31'; have D4 : Below w2.heap.size w2 w4 := (by first | exact H3.out.1.trans (b4.mono H3.out.1.size) | exact H3.out.2.1.trans (b4.mono H3.out.2.1.size)); have al4 : Below w4.heap.size w4 (w4.alloc (.cells #[.int .i64 0, .int .i64 0, .int .i64 0, .slice none 0 0] 31)) := (Below.refl _ _).alloc (Nat.le_refl _) _; have E4 := D4.trans (al4.mono D4.size); obtain ⟨c40, c41, c42, c43⟩ := tb4 (HU.out.next D4).kT; obtain ⟨f40, f41⟩ := fb2 (HU.out.next D4).kF; obtain ⟨c40', c41', c42', c43'⟩ := tb4 (HU.out.next E4).kT; obtain ⟨f40', f41'⟩ := fb2 (HU.out.next E4).kF; have g4 : w4.heap.size ≠ w.heap.size := (by have := D4.size; have := HU.out.lt; omega); have g4' : w4.heap.size ≠ w.heap.size + 1 := (by have := D4.size; have := HU.out.lt; omega); have R4 : GRow 2 w4 (.slice ra3 n rc3) (SField.L es) := (by first | exact H3.out.2.2.1.below b4 | exact H3.out.2.2.2.below b4); (first | have kN := nbA b4 | have kN := nbK b4 kN | skip); have H4 : Hid _ := And.intro D4 (And.intro E4 (And.intro R4 (R4.below al4))); clear b4 R4 D4 E4 al4)
      | (go_at_call 6; refine (HS.out _ _ (by first | exact HU.out.next H4.out.1 |>.bw | exact HU.out.next H4.out.2.1 |>.bw) (by first | exact H4.out.2.2.1 | exact H4.out.2.2.2)).mono ?_; rintro e w5 ⟨r5, rfl, o5, b5⟩; obtain ⟨ra5, rc5, er5⟩ := FX.out _ _ _ o5; subst er5; clear c40 c41 c42 c43 f40 f41 c40' c41' c42' c43' f40' f41'; have D5 : Below w2.heap.size w2 w5 := (by first | exact H4.out.1.trans (b5.mono H4.out.1.size) | exact H4.out.2.1.trans (b5.mono H4.out.2.1.size)); have al5 : Below w5.heap.size w5 (w5.alloc (.cells #[.int .i64 0, .int .i64 0, .int .i64 0, .slice none 0 0] 31)) := (Below.refl _ _).alloc (Nat.le_refl _) _; have E5 := D5.trans (al5.mono D5.size); obtain ⟨c50, c51, c52, c53⟩ := tb4 (HU.out.next D5).kT; obtain ⟨f50, f51⟩ := fb2 (HU.out.next D5).kF; obtain ⟨c50', c51', c52', c53'⟩ := tb4 (HU.out.next E5).kT; obtain ⟨f50', f51'⟩ := fb2 (HU.out.next E5).kF; have g5 : w5.heap.size ≠ w.heap.size := (by have := D5.size; have := HU.out.lt; omega); have g5' : w5.heap.size ≠ w.heap.size + 1 := (by have := D5.size; have := HU.out.lt; omega); have u5 := fun k hk => (o5.ltF k hk).2; have v5 : GOwns 35 2 w5 w2.heap.size (.slice ra5 m rc5) (SField.L xe) := o5.mono (by have := H4.out.1.size; first | omega | (simp; omega)); (first | (have hN := nbL o5; have kN := nbA b5) | (have hN := nbM kN o5; have kN := nbK b5 kN) | skip); (try (obtain ⟨m0, m1, m2, m3⟩ := tb4 kN; have i0 := bk_free kN 0; have i1 := bk_free kN 1; have i2 := bk_free kN 2; have i3 := bk_free kN 3)); (try (have HK : Hid _ := And.intro kN hN; clear kN hN)); have H5 : Hid _ := And.intro D5 (And.intro E5 (And.intro u5 (And.intro v5 al5))); clear b5 u5 v5 o5 D5 E5 al5))
    all_goals
      go_wp2_with fail
      go_meet
      first
      | exact RB.of_set H5.out.1 HK.out.1 (fun k hk => Nat.ne_of_gt (HK.out.2 k hk)) (by first | exact Nat.le_refl _ | exact H3.out.1.size | exact H4.out.1.size) H5.out.2.2.2.1
      | exact RB.of_new H5.out.1 (fun k hk => Nat.ne_of_lt (H5.out.2.2.1 k hk)) H5.out.2.2.2.1
  case rest =>
  obtain ⟨b6, r3, rfl, rfl, k6, o3, D3, l6, n3⟩ := hcut
  obtain ⟨ra3, rc3, er3⟩ := FX.out _ _ _ o3
  subst er3
  rename World => wx
  have U3 : AB w wx mo ca ad (.slice ao n cp) a c := HU.out.next D3
  clear ca0 ca1 ca2 ca3 fa0 fa1 ca0' ca1' ca2' ca3' fa0' fa1' ga ga'
  have lz : w.heap.size + 2 ≤ w2.heap.size := HU.out.lt
  clear HA HU
  obtain ⟨d0, d1, d2, d3⟩ := tb4 U3.kT
  have i3 := fun k hk => (o3.ltF k hk).2
  have H3 : Hid _ := And.intro U3 (And.intro k6 (And.intro (o3.mono (base' := w.heap.size + 2) lz) i3))
  clear U3 k6 o3 D3 l6 n3 i3 lz
  go_wp2_with fail
  go_at_call 7
  refine (HT.out wx H3.out.1.bw).mono ?_
  rintro e w6 ⟨r4, rfl, o4, b4⟩
  obtain ⟨ra4, rc4, er4⟩ := FF.out _ _ _ o4
  subst er4
  have a4 : Below w6.heap.size w6 (w6.alloc (.cells #[.int .i64 mo, .int .i64 ca, .int .i64 ad, .slice ra4 n rc4] 31)) := (Below.refl w6.heap.size w6).alloc (Nat.le_refl _) _
  have z4 : (w6.alloc (.cells #[.int .i64 mo, .int .i64 ca, .int .i64 ad, .slice ra4 n rc4] 31)).heap.size = w6.heap.size + 1 := by simp
  have J4 := heap_alloc_new w6 (.cells #[.int .i64 mo, .int .i64 ca, .int .i64 ad, .slice ra4 n rc4] 31)
  have u4 : AB w (w6.alloc (.cells #[.int .i64 mo, .int .i64 ca, .int .i64 ad, .slice ra4 n rc4] 31)) mo ca ad (.slice ao n cp) a c := (H3.out.1.next b4).next a4
  have H4 : Hid _ := And.intro (b4.trans (a4.mono b4.size)) (And.intro b4.size (And.intro z4 (And.intro (o4.below a4) (fun k hk => o4.ltF k hk))))
  have HU : Hid _ := u4
  have HB : Hid _ := And.intro J4 (show w6.heap.size < (w6.alloc (.cells #[.int .i64 mo, .int .i64 ca, .int .i64 ad, .slice ra4 n rc4] 31)).heap.size by rw [z4]; omega)
  clear b4 o4 a4 z4 J4 u4 d0 d1 d2 d3
  go_wp2_with fail
  generalize w6.alloc (.cells #[.int .i64 mo, .int .i64 ca, .int .i64 ad, .slice ra4 n rc4] 31) = w7 at *
  have DA : Below w7.heap.size w7 w7.drew := drew_below w7
  have EA : Below w7.heap.size w7 (w7.alloc (.cells #[.int .i64 0, .int .i64 0, .int .i64 0, .slice none 0 0] 31)).drew := ((Below.refl _ _).alloc (Nat.le_refl _) _).trans ((drew_below _).mono (by simp))
  obtain ⟨ca0, ca1, ca2, ca3⟩ := tb4 (HU.out.next DA).kT
  obtain ⟨fa0, fa1⟩ := fb2 (HU.out.next DA).kF
  obtain ⟨ca0', ca1', ca2', ca3'⟩ := tb4 (HU.out.next EA).kT
  obtain ⟨fa0', fa1'⟩ := fb2 (HU.out.next EA).kF
  obtain ⟨xa0, xa1, xa2, xa3⟩ := tb4 ((DA.block _ HB.out.2).trans HB.out.1)
  obtain ⟨xa0', xa1', xa2', xa3'⟩ := tb4 ((EA.block _ HB.out.2).trans HB.out.1)
  have ga'' : w7.heap.size ≠ w6.heap.size := by have := HB.out.2; omega
  have ga : w7.heap.size ≠ w.heap.size := by have := HU.out.lt; omega
  have ga' : w7.heap.size ≠ w.heap.size + 1 := by have := HU.out.lt; omega
  have HA : Hid _ := And.intro DA EA
  clear DA EA
  go_cut [9, 10] from 36 to 42 (fun p cv wx => RB w7 wx xm xc xa xe p cv code)
  case first =>
    go_region_held3 (fun w' => w'.cell? ⟨w.heap.size, 0, none⟩ = some (.int .i64 mo) ∧ w'.cell? ⟨w.heap.size, 1, none⟩ = some (.int .i64 ca) ∧ w'.cell? ⟨w.heap.size, 2, none⟩ = some (.int .i64 ad) ∧ w'.cell? ⟨w.heap.size, 3, none⟩ = some (.slice ao n cp) ∧ w'.cell? ⟨w.heap.size + 1, 0, none⟩ = some (.string a) ∧ w'.cell? ⟨w.heap.size + 1, 1, none⟩ = some (.string c) ∧ w'.cell? ⟨w6.heap.size, 0, none⟩ = some (.int .i64 mo) ∧ w'.cell? ⟨w6.heap.size, 1, none⟩ = some (.int .i64 ca) ∧ w'.cell? ⟨w6.heap.size, 2, none⟩ = some (.int .i64 ad) ∧ w'.cell? ⟨w6.heap.size, 3, none⟩ = some (.slice ra4 n rc4)) (go_keep)
      (first
      | (go_at_call 8; refine (toField a c _).mono ?_; rintro e w8 ⟨rfl, b8⟩; clear ca0 ca1 ca2 ca3 fa0 fa1 xa0 xa1 xa2 xa3 ca0' ca1' ca2' ca3' fa0' fa1' xa0' xa1' xa2' xa3'; have D8 : Below w7.heap.size w7 w8 := (by first | exact HA.out.1.trans (b8.mono HA.out.1.size) | exact HA.out.2.trans (b8.mono HA.out.2.size)); have al8 : Below w8.heap.size w8 (w8.alloc (.cells #[.int .i64 0, .int .i64 0, .int .i64 0, .slice none 0 0] 31)) := (Below.refl _ _).alloc (Nat.le_refl _) _; have E8 := D8.trans (al8.mono D8.size); obtain ⟨c80, c81, c82, c83⟩ := tb4 (HU.out.next D8).kT; obtain ⟨f80, f81⟩ := fb2 (HU.out.next D8).kF; obtain ⟨c80', c81', c82', c83'⟩ := tb4 (HU.out.next E8).kT; obtain ⟨f80', f81'⟩ := fb2 (HU.out.next E8).kF; obtain ⟨x80, x81, x82, x83⟩ := tb4 ((D8).block _ HB.out.2 |>.trans HB.out.1); obtain ⟨x80', x81', x82', x83'⟩ := tb4 ((E8).block _ HB.out.2 |>.trans HB.out.1); have g8 : w8.heap.size ≠ w.heap.size := (by have := D8.size; have := HU.out.lt; omega); have g8' : w8.heap.size ≠ w.heap.size + 1 := (by have := D8.size; have := HU.out.lt; omega); have g8'' : w8.heap.size ≠ w6.heap.size := (by have := D8.size; have := HB.out.2; omega); have R8 : GRow 2 w8 (.slice ra4 n rc4) (SField.L es) := H4.out.2.2.2.1.row.below D8; (try have kN := nbD b8); have H8 : Hid _ := And.intro D8 (And.intro E8 (And.intro R8 (R8.below al8))); clear b8 R8 D8 E8 al8)
      | (go_at_call 9; refine (HI.out _ _ (by first | exact HU.out.next H8.out.1 |>.bw | exact HU.out.next H8.out.2.1 |>.bw) (by first | exact H8.out.2.2.1 | exact H8.out.2.2.2)).mono ?_; rintro e w9 ⟨r9, rfl, o9, b9⟩; obtain ⟨ra9, rc9, er9⟩ := FX.out _ _ _ o9; subst er9; clear c80 c81 c82 c83 f80 f81 x80 x81 x82 x83 c80' c81' c82' c83' f80' f81' x80' x81' x82' x83'; have D9 : Below w7.heap.size w7 w9 := (by first | exact H8.out.1.trans (b9.mono H8.out.1.size) | exact H8.out.2.1.trans (b9.mono H8.out.2.1.size)); have al9 : Below w9.heap.size w9 (w9.alloc (.cells #[.int .i64 0, .int .i64 0, .int .i64 0, .slice none 0 0] 31)) := (Below.refl _ _).alloc (Nat.le_refl _) _; have E9 := D9.trans (al9.mono D9.size); obtain ⟨c90, c91, c92, c93⟩ := tb4 (HU.out.next D9).kT; obtain ⟨f90, f91⟩ := fb2 (HU.out.next D9).kF; obtain ⟨c90', c91', c92', c93'⟩ := tb4 (HU.out.next E9).kT; obtain ⟨f90', f91'⟩ := fb2 (HU.out.next E9).kF; obtain ⟨x90, x91, x92, x93⟩ := tb4 ((D9).block _ HB.out.2 |>.trans HB.out.1); obtain ⟨x90', x91', x92', x93'⟩ := tb4 ((E9).block _ HB.out.2 |>.trans HB.out.1); have g9 : w9.heap.size ≠ w.heap.size := (by have := D9.size; have := HU.out.lt; omega); have g9' : w9.heap.size ≠ w.heap.size + 1 := (by have := D9.size; have := HU.out.lt; omega); have g9'' : w9.heap.size ≠ w6.heap.size := (by have := D9.size; have := HB.out.2; omega); have u9 := fun k hk => (o9.ltF k hk).2; have v9 : GOwns 35 2 w9 w7.heap.size (.slice ra9 m rc9) (SField.L xe) := o9.mono (by have := H8.out.1.size; first | omega | (simp; omega)); (first | (have hN := nbL o9; have kN := nbA b9) | (have hN := nbM kN o9; have kN := nbK b9 kN) | skip); (try (obtain ⟨m0, m1, m2, m3⟩ := tb4 kN; have i0 := bk_free kN 0; have i1 := bk_free kN 1; have i2 := bk_free kN 2; have i3 := bk_free kN 3)); (try (have HK : Hid _ := And.intro kN hN; clear kN hN)); have H9 : Hid _ := And.intro D9 (And.intro E9 (And.intro u9 (And.intro v9 al9))); clear b9 u9 v9 o9 D9 E9 al9))
    all_goals
      go_wp2_with fail
      go_meet
      first
      | exact RB.of_set H9.out.1 HK.out.1 (fun k hk => Nat.ne_of_gt (HK.out.2 k hk)) (by first | exact Nat.le_refl _ | exact H8.out.1.size) H9.out.2.2.2.1
      | exact RB.of_new H9.out.1 (fun k hk => Nat.ne_of_lt (H9.out.2.2.1 k hk)) H9.out.2.2.2.1
  case rest =>
  obtain ⟨b9, r9, rfl, rfl, k9, o9, D9, l9, n9⟩ := hcut
  obtain ⟨ra9, rc9, er9⟩ := FX.out _ _ _ o9
  subst er9
  rename World => wy
  clear ca0 ca1 ca2 ca3 fa0 fa1 ca0' ca1' ca2' ca3' fa0' fa1' ga ga'
  clear xa0 xa1 xa2 xa3 xa0' xa1' xa2' xa3' ga''
  have lb6 : b6 < wx.heap.size := (Array.getElem?_eq_some_iff.1 H3.out.2.1).1
  have zx : wx.heap.size ≤ w6.heap.size := H4.out.2.1
  have z7 : w7.heap.size = w6.heap.size + 1 := H4.out.2.2.1
  have lz : w.heap.size + 2 ≤ wx.heap.size := H3.out.1.lt
  have LL : LT w wy b6 w6.heap.size b9 mo ca ad (.slice ao n cp) a c xm xc xa xe (.slice ra3 m rc3) (.slice ra4 n rc4) (.slice ra9 m rc9) es xe :=
    ⟨HU.out.next D9, (D9.block _ (by omega)).trans ((H4.out.1.block _ lb6).trans H3.out.2.1), (D9.block _ (by omega)).trans HB.out.1, k9, (H3.out.2.2.1.below H4.out.1).below D9, (H4.out.2.2.2.1.mono (by omega)).below D9, o9.mono (by omega),
      fun k hk => by
        have q := H4.out.2.2.2.2 k hk
        exact ⟨by omega, by omega, by omega, fun e => by have := H3.out.2.2.2 k e; omega, fun e => by have := (o9.ltF k e).1; omega⟩,
      fun k hk => by
        have q := (o9.ltF k hk).1
        exact ⟨by omega, by omega, n9 k hk, fun e => by have := H3.out.2.2.2 k e; omega, fun e => by have := H4.out.2.2.2.2 k e; omega⟩⟩
  obtain ⟨d0, d1, d2, d3⟩ := tb4 LL.k6
  obtain ⟨e0, e1, e2, e3⟩ := tb4 LL.k9
  have HL : Hid _ := LL
  clear LL k9 o9 D9 l9 n9 lb6 zx z7 lz HU HB HA
  go_wp2_with fail
  go_at_call 10
  refine (HX.out _ _ _ HL.out.o6.row HL.out.o3.row).mono ?_
  rintro e w10 ⟨rfl, b10⟩
  have L10 := (HL.out.next b10).next (drew_below w10)
  clear b10 d0 d1 d2 d3 e0 e1 e2 e3
  obtain ⟨d0, d1, d2, d3⟩ := tb4 L10.ab.kT
  obtain ⟨e0, e1, e2, e3⟩ := tb4 L10.k8
  have H10 : Hid _ := L10
  clear L10
  go_wp2_with fail
  go_cut [56] from 52 to 56 (fun b wz => b = .bool false ∧ LT w wz b6 w6.heap.size b9 mo ca ad (.slice ao n cp) a c xm xc xa xe (.slice ra3 m rc3) (.slice ra4 n rc4) (.slice ra9 m rc9) es xe)
  case first =>
    go_region_with (first
      | (go_at_call 7; refine (HT.out w10.drew H10.out.ab.bw).mono ?_; rintro e w11 ⟨r11, rfl, o11, b11⟩; obtain ⟨ra11, rc11, er11⟩ := FF.out _ _ _ o11; subst er11; obtain ⟨e0', e1', e2', e3'⟩ := tb4 (H10.out.next b11).k8; have H11 : Hid _ := And.intro (H10.out.next b11) o11.row; clear b11 o11)
      | (go_at_call 10; refine (HE.out _ _ _ H11.out.1.o4.row H11.out.2).mono ?_; rintro e w12 ⟨rfl, b12⟩; have H12 : Hid _ := H11.out.1.next b12; clear b12))
    all_goals
      go_simp
      go_wp2_with fail
      go_meet
      exact ⟨rfl, H12.out⟩
  case rest =>
    obtain ⟨rfl, hl⟩ := hcut
    clear d0 d1 d2 d3 e0 e1 e2 e3
    obtain ⟨e0, e1, e2, e3⟩ := tb4 hl.k8
    have H13 : Hid _ := hl
    clear hl
    go_wp2_with fail
    go_at_call 11
    refine (G.out.1 _ _ _ H13.out.o4).mono ?_
    rintro e w14 ⟨rfl, ⟨P4, mp4, o14⟩, c14⟩
    have L14 := H13.out.mark4 c14 o14
    clear c14 o14 mp4 e0 e1 e2 e3
    obtain ⟨d0, d1, d2, d3⟩ := tb4 L14.k6
    obtain ⟨e0, e1, e2, e3⟩ := tb4 L14.k9
    have H14 : Hid _ := L14
    clear L14
    go_wp2_with fail
    go_at_call 10
    refine (HX.out _ _ _ H14.out.o6.row H14.out.o3.row).mono ?_
    rintro e w15 ⟨rfl, b15⟩
    have L15 := H14.out.next b15
    clear b15 d0 d1 d2 d3 e0 e1 e2 e3
    obtain ⟨e0, e1, e2, e3⟩ := tb4 L15.k9
    have H15 : Hid _ := L15
    clear L15
    go_wp2_with fail
    go_at_call 11
    refine (G.out.2.1 _ _ _ H15.out.o6).mono ?_
    rintro e w16 ⟨rfl, ⟨P6, mp6, o16⟩, c16⟩
    have L16 := H15.out.mark6 c16 o16
    clear c16 o16 e0 e1 e2 e3
    obtain ⟨e0, e1, e2, e3⟩ := tb4 L16.k9
    have H16 : Hid _ := And.intro L16 mp6
    clear L16 mp6
    go_wp2_with fail
    go_at_call 12
    refine (G.out.2.2 _ _ _ _ H16.out.1.o6 H16.out.2).mono ?_
    rintro e w17 ⟨rfl, b17⟩
    have L17 := H16.out.1.next b17
    clear b17 e0 e1 e2 e3
    have HU : Hid _ := L17.ab
    have H17 : Hid _ := L17
    clear L17
    have DA : Below w17.heap.size w17 w17.drew := drew_below w17
    have EA : Below w17.heap.size w17 (w17.alloc (.cells #[.int .i64 0, .int .i64 0, .int .i64 0, .slice none 0 0] 31)).drew := ((Below.refl _ _).alloc (Nat.le_refl _) _).trans ((drew_below _).mono (by simp))
    obtain ⟨ca0, ca1, ca2, ca3⟩ := tb4 (HU.out.next DA).kT
    obtain ⟨fa0, fa1⟩ := fb2 (HU.out.next DA).kF
    obtain ⟨ca0', ca1', ca2', ca3'⟩ := tb4 (HU.out.next EA).kT
    obtain ⟨fa0', fa1'⟩ := fb2 (HU.out.next EA).kF
    have ga : w17.heap.size ≠ w.heap.size := by have := HU.out.lt; omega
    have ga' : w17.heap.size ≠ w.heap.size + 1 := by have := HU.out.lt; omega
    have HA : Hid _ := And.intro DA EA
    clear DA EA
    go_wp2_with fail
    go_cut [14, 15] from 84 to 91 (fun p cv wx => RB w17 wx xm xc xa xe p cv code)
    case first =>
      go_region_held3 (fun w' => w'.cell? ⟨w.heap.size, 0, none⟩ = some (.int .i64 mo) ∧ w'.cell? ⟨w.heap.size, 1, none⟩ = some (.int .i64 ca) ∧ w'.cell? ⟨w.heap.size, 2, none⟩ = some (.int .i64 ad) ∧ w'.cell? ⟨w.heap.size, 3, none⟩ = some (.slice ao n cp) ∧ w'.cell? ⟨w.heap.size + 1, 0, none⟩ = some (.string a) ∧ w'.cell? ⟨w.heap.size + 1, 1, none⟩ = some (.string c)) (go_keep)
        (first
        | (go_at_call 7; refine (HT.out _ (by first | exact HU.out.next HA.out.1 |>.bw | exact HU.out.next HA.out.2 |>.bw)).mono ?_; rintro e w18 ⟨r18, rfl, o18, b18⟩; obtain ⟨ra18, rc18, er18⟩ := FF.out _ _ _ o18; subst er18; clear ca0 ca1 ca2 ca3 fa0 fa1 ca0' ca1' ca2' ca3' fa0' fa1'; have D18 : Below w17.heap.size w17 w18 := (by first | exact HA.out.1.trans (b18.mono HA.out.1.size) | exact HA.out.2.trans (b18.mono HA.out.2.size)); have al18 : Below w18.heap.size w18 (w18.alloc (.cells #[.int .i64 0, .int .i64 0, .int .i64 0, .slice none 0 0] 31)) := (Below.refl _ _).alloc (Nat.le_refl _) _; have E18 := D18.trans (al18.mono D18.size); obtain ⟨c180, c181, c182, c183⟩ := tb4 (HU.out.next D18).kT; obtain ⟨f180, f181⟩ := fb2 (HU.out.next D18).kF; obtain ⟨c180', c181', c182', c183'⟩ := tb4 (HU.out.next E18).kT; obtain ⟨f180', f181'⟩ := fb2 (HU.out.next E18).kF; have g18 : w18.heap.size ≠ w.heap.size := (by have := D18.size; have := HU.out.lt; omega); have g18' : w18.heap.size ≠ w.heap.size + 1 := (by have := D18.size; have := HU.out.lt; omega); (try have kN := nbD b18); have H18 : Hid _ := And.intro D18 (And.intro E18 (And.intro o18.row (o18.row.below al18))); clear o18 b18 D18 E18 al18)
        | (go_at_call 8; refine (toField a c _).mono ?_; rintro e w19 ⟨rfl, b19⟩; clear c180 c181 c182 c183 f180 f181 c180' c181' c182' c183' f180' f181'; have D19 : Below w17.heap.size w17 w19 := (by first | exact H18.out.1.trans (b19.mono H18.out.1.size) | exact H18.out.2.1.trans (b19.mono H18.out.2.1.size)); have al19 : Below w19.heap.size w19 (w19.alloc (.cells #[.int .i64 0, .int .i64 0, .int .i64 0, .slice none 0 0] 31)) := (Below.refl _ _).alloc (Nat.le_refl _) _; have E19 := D19.trans (al19.mono D19.size); obtain ⟨c190, c191, c192, c193⟩ := tb4 (HU.out.next D19).kT; obtain ⟨f190, f191⟩ := fb2 (HU.out.next D19).kF; obtain ⟨c190', c191', c192', c193'⟩ := tb4 (HU.out.next E19).kT; obtain ⟨f190', f191'⟩ := fb2 (HU.out.next E19).kF; have g19 : w19.heap.size ≠ w.heap.size := (by have := D19.size; have := HU.out.lt; omega); have g19' : w19.heap.size ≠ w.heap.size + 1 := (by have := D19.size; have := HU.out.lt; omega); have R19 : GRow 2 w19 (.slice ra18 n rc18) (SField.L es) := (by first | exact H18.out.2.2.1.below b19 | exact H18.out.2.2.2.below b19); (first | have kN := nbA b19 | have kN := nbK b19 kN | skip); have H19 : Hid _ := And.intro D19 (And.intro E19 (And.intro R19 (R19.below al19))); clear b19 R19 D19 E19 al19)
        | (go_at_call 9; refine (HI.out _ _ (by first | exact HU.out.next H19.out.1 |>.bw | exact HU.out.next H19.out.2.1 |>.bw) (by first | exact H19.out.2.2.1 | exact H19.out.2.2.2)).mono ?_; rintro e w20 ⟨r20, rfl, o20, b20⟩; obtain ⟨ra20, rc20, er20⟩ := FX.out _ _ _ o20; subst er20; clear c190 c191 c192 c193 f190 f191 c190' c191' c192' c193' f190' f191'; have D20 : Below w17.heap.size w17 w20 := (by first | exact H19.out.1.trans (b20.mono H19.out.1.size) | exact H19.out.2.1.trans (b20.mono H19.out.2.1.size)); have al20 : Below w20.heap.size w20 (w20.alloc (.cells #[.int .i64 0, .int .i64 0, .int .i64 0, .slice none 0 0] 31)) := (Below.refl _ _).alloc (Nat.le_refl _) _; have E20 := D20.trans (al20.mono D20.size); obtain ⟨c200, c201, c202, c203⟩ := tb4 (HU.out.next D20).kT; obtain ⟨f200, f201⟩ := fb2 (HU.out.next D20).kF; obtain ⟨c200', c201', c202', c203'⟩ := tb4 (HU.out.next E20).kT; obtain ⟨f200', f201'⟩ := fb2 (HU.out.next E20).kF; have g20 : w20.heap.size ≠ w.heap.size := (by have := D20.size; have := HU.out.lt; omega); have g20' : w20.heap.size ≠ w.heap.size + 1 := (by have := D20.size; have := HU.out.lt; omega); have u20 := fun k hk => (o20.ltF k hk).2; have v20 : GOwns 35 2 w20 w17.heap.size (.slice ra20 m rc20) (SField.L xe) := o20.mono (by have := H19.out.1.size; first | omega | (simp; omega)); (first | (have hN := nbL o20; have kN := nbA b20) | (have hN := nbM kN o20; have kN := nbK b20 kN) | skip); (try (obtain ⟨m0, m1, m2, m3⟩ := tb4 kN; have i0 := bk_free kN 0; have i1 := bk_free kN 1; have i2 := bk_free kN 2; have i3 := bk_free kN 3)); (try (have HK : Hid _ := And.intro kN hN; clear kN hN)); have H20 : Hid _ := And.intro D20 (And.intro E20 (And.intro u20 (And.intro v20 al20))); clear b20 u20 v20 o20 D20 E20 al20))
      all_goals
        go_wp2_with fail
        go_meet
        first
        | exact RB.of_set H20.out.1 HK.out.1 (fun k hk => Nat.ne_of_gt (HK.out.2 k hk)) (by first | exact Nat.le_refl _ | exact H18.out.1.size | exact H19.out.1.size) H20.out.2.2.2.1
        | exact RB.of_new H20.out.1 (fun k hk => Nat.ne_of_lt (H20.out.2.2.1 k hk)) H20.out.2.2.2.1
    case rest =>
    obtain ⟨b20, r20, rfl, rfl, k20, o20, D20, l20, n20⟩ := hcut
    obtain ⟨ra20, rc20, er20⟩ := FX.out _ _ _ o20
    subst er20
    clear ca0 ca1 ca2 ca3 fa0 fa1 ca0' ca1' ca2' ca3' fa0' fa1' ga ga'
    have L20 := H17.out.next D20
    obtain ⟨d0, d1, d2, d3⟩ := tb4 L20.k6
    obtain ⟨e0, e1, e2, e3⟩ := tb4 k20
    have H20 : Hid _ := And.intro L20 o20.row
    clear L20 k20 o20 D20 l20 n20 HA HU
    go_wp2_with fail
    go_at_call 10
    refine (HX.out _ _ _ H20.out.2 H20.out.1.o3.row).mono ?_
    rintro e w21 ⟨rfl, b21⟩
    have L21 := H20.out.1.next b21
    clear b21 d0 d1 d2 d3 e0 e1 e2 e3
    obtain ⟨e0, e1, e2, e3⟩ := tb4 L21.k9
    have H21 : Hid _ := L21
    clear L21
    go_wp2_with fail
    go_at_call 12
    refine (G.out.2.2 _ _ _ _ H21.out.o6 H16.out.2).mono ?_
    rintro e w22 ⟨rfl, b22⟩
    have H22 : Hid _ := (H21.out.next b22).ab.bw
    clear b22 e0 e1 e2 e3
    go_wp2
    go_ret
    exact ⟨rfl, H22.out⟩
theorem ta_huge1 (t : TB) (s : Value) (a c : ByteArray) (w : World) (h : GRow 2 w s (SField.L t.es)) (hm : t.es.length ≤ 9223372036854775807) (hf : fin t.es) (ho : 1048576 < (t.es.length : Int) + txs t.es) :
    Calls Try.prog 3 #[tV t s, .agg #[.string a, .string c]] w fun e w' => e = .returned (.bool true) ∧ Below w.heap.size w w' := by
  have A0 := AB.new w t.mo t.ca t.ad s a c
  have C := szTab t s 1048576 (-1) _ (h.below A0.bw) hm (by decide) (by decide) hf (by rw [if_neg (by omega)])
  obtain ⟨ao, cp, rfl⟩ := frow_form h
  obtain ⟨n, en⟩ : ∃ n, n = t.es.length := ⟨_, rfl⟩
  rw [← en] at C A0 ⊢
  have H : Hid _ := And.intro C A0
  clear C A0 h hm hf ho en
  unfold tV at *
  obtain ⟨mo, ca, ad, es⟩ := t
  go_enter Try.func3, Try.ntmps3
  go_wp2_with (go_at_call 4; refine H.out.1.mono ?_; rintro e w2 ⟨rfl, b2⟩; have H2 : Hid _ := (H.out.2.next b2).bw; clear b2)
  go_ret
  exact ⟨rfl, H2.out⟩
theorem ta_huge2 (t : TB) (s : Value) (a c : ByteArray) (w : World) (h : GRow 2 w s (SField.L t.es)) (hf : fin t.es) (ha : a.size ≤ 9223372036854775807) (hc : c.size ≤ 9223372036854775807) (ho : (t.es.length : Int) + txs t.es ≤ 1048576) (ho2 : 1048576 < (t.es.length : Int) + txs t.es + (a.size + c.size)) :
    Calls Try.prog 3 #[tV t s, .agg #[.string a, .string c]] w fun e w' => e = .returned (.bool true) ∧ Below w.heap.size w w' := by
  have h0 := txs_nn t.es
  have A0 := AB.new w t.mo t.ca t.ad s a c
  have C1 := szTab t s 1048576 (1048576 - (t.es.length + txs t.es)) _ (h.below A0.bw) (by omega) (by decide) (by decide) hf (by rw [if_pos (by omega)])
  have C2 : ∀ u, _ := fun u => szFld a c (1048576 - (t.es.length + txs t.es)) (-1) u (by omega) (by omega) ha hc (by rw [if_neg (by omega)])
  obtain ⟨R1, eR1⟩ : ∃ R, R = 1048576 - ((t.es.length : Int) + txs t.es) := ⟨_, rfl⟩
  have p1 : 0 ≤ R1 := by omega
  rw [← eR1] at C1 C2
  obtain ⟨ao, cp, rfl⟩ := frow_form h
  obtain ⟨n, en⟩ : ∃ n, n = t.es.length := ⟨_, rfl⟩
  rw [← en] at C1 A0 ⊢
  have H : Hid _ := And.intro C1 (And.intro A0 C2)
  clear C1 C2 A0 h hf ho ho2 en eR1 ha hc h0
  unfold tV at *
  obtain ⟨mo, ca, ad, es⟩ := t
  go_enter Try.func3, Try.ntmps3
  go_wp2_with fail
  go_at_call 4
  refine H.out.1.mono ?_
  rintro e w1 ⟨rfl, b1⟩
  have A1 := H.out.2.1.next b1
  obtain ⟨d0, d1⟩ := fb2 A1.kF
  have H1 : Hid _ := A1
  clear A1 b1
  go_wp2_with (go_at_call 5; refine (H.out.2.2 w1).mono ?_; rintro e w2 ⟨rfl, b2⟩; have H2 : Hid _ := (H1.out.next b2).bw; clear b2)
  go_ret
  exact ⟨rfl, H2.out⟩
theorem fnExactTableAdd_walk (t : TB) (s : Value) (a c : ByteArray) (hl : t.es.length ≤ maxLen) (hf : fin t.es) (za : a.size ≤ maxLen) (zc : c.size ≤ maxLen) (w : World) (h : GRow 2 w s (SField.L t.es)) :
    Calls Try.prog 3 #[tV t s, .agg #[.string a, .string c]] w fun e w' => e = .returned (.bool true) ∧ Below w.heap.size w w' := by
  unfold maxLen at hl za zc
  by_cases ho : (t.es.length : Int) + txs t.es ≤ 1048576
  · by_cases ho2 : (t.es.length : Int) + txs t.es + (a.size + c.size) ≤ 1048576
    · exact ta_law t s a c w h hf (by omega) (by omega) ho2
    · exact ta_huge2 t s a c w h hf (by omega) (by omega) ho (by omega)
  · exact ta_huge1 t s a c w h (by omega) hf (by omega)
end Go.Proofs.Ytocinjcbkolnhaa
