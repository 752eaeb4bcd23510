/- The arena, the document's own, and what is apart from both: what each call leaves of them. Condition: at most 10000 numbers. -/
import Derived.Test.YtbphjhmmdkaggaaNt
namespace Go.Proofs.Ytbphjhmmdkaggaa
open Go.RowKit
set_option linter.unusedVariables false

/-- An arena (at g) and the document's own one (at r), apart from each other, from what was there at the beginning (w), and from the blocks that X names. -/
def PS (w : World) (g r : Nat) (L : List (Option Nd)) (F : List Nat) (L2 : List (Option Nd)) (F2 : List Nat) (X : Nat → Prop) (wr : World) : Prop :=
  ∃ D E P T Q pc tc qc xs, Ar wr D g L F ∧ Ref w wr E r L2 F2 P T Q pc tc qc xs ∧ (∀ b, D b → w.heap.size ≤ b) ∧ (∀ b, E b → w.heap.size ≤ b) ∧ (∀ b, D b → ¬ E b) ∧ (∀ b, X b → ¬ D b ∧ ¬ E b ∧ b < wr.heap.size) ∧ Below w.heap.size w wr

theorem PS.size {w : World} {g r : Nat} {L L2 : List (Option Nd)} {F F2 : List Nat} {X : Nat → Prop} {wr : World} (h : PS w g r L F L2 F2 X wr) : Below w.heap.size w wr := by
  obtain ⟨D, E, P, T, Q, pc, tc, qc, xs, h1, h2, h3, h4, h5, h6, h7⟩ := h
  exact h7
theorem PS.free {w : World} {g r : Nat} {L L2 : List (Option Nd)} {F F2 : List Nat} {X : Nat → Prop} {wr : World} (h : PS w g r L F L2 F2 X wr) : FreeOk L F := by
  obtain ⟨D, E, P, T, Q, pc, tc, qc, xs, h1, h2, h3, h4, h5, h6, h7⟩ := h
  exact h1.free
theorem Ref.keep {w0 w w' : World} {E : Nat → Prop} {r : Nat} {L : List (Option Nd)} {F : List Nat} {P T Q : Option Addr} {pc tc qc : Nat} {xs : List Value} (h : Ref w0 w E r L F P T Q pc tc qc xs) (ha : Agree E w w') : Ref w0 w' E r L F P T Q pc tc qc xs := ⟨h.1.keep ha, h.2⟩

/-- Behind what turns the arena alone. -/
theorem ps_turn {w wr w' : World} {D E : Nat → Prop} {g r : Nat} {L' L2 : List (Option Nd)} {F' F2 : List Nat} {X : Nat → Prop} {P T Q : Option Addr} {pc tc qc : Nat} {xs : List Value} (hT : Turn wr D g L' F' w') (hlt : ∀ b, D b → b < wr.heap.size) (hR : Ref w wr E r L2 F2 P T Q pc tc qc xs)
    (hD : ∀ b, D b → w.heap.size ≤ b) (hE : ∀ b, E b → w.heap.size ≤ b) (hDE : ∀ b, D b → ¬ E b) (hX : ∀ b, X b → ¬ D b ∧ ¬ E b ∧ b < wr.heap.size) (hb : Below w.heap.size w wr) : PS w g r L' F' L2 F2 X w' ∧ Agree X wr w' := by
  obtain ⟨D', ha, hd, ho⟩ := hT
  have hEl := hR.1.lt
  refine ⟨⟨D', E, P, T, Q, pc, tc, qc, xs, ha, hR.keep (ho.agree fun b hb hd => hDE b hd hb), fun b hb' => (hd b hb').elim (hD b) (fun h => Nat.le_trans hb.size h), hE, fun b hb' he => ?_, fun b hx => ⟨fun hd' => ?_, (hX b hx).2.1, Nat.lt_of_lt_of_le (hX b hx).2.2 ho.size⟩, hb.trans (ho.below hD hb.size)⟩, ho.agree fun b hx => (hX b hx).1⟩
  · rcases hd b hb' with h | h
    · exact hDE b h he
    · have := hEl b he; omega
  · rcases hd b hd' with h | h
    · exact (hX b hx).1 h
    · have := (hX b hx).2.2; omega
/-- Behind what turns the document's own arena alone. -/
theorem ps_rturn {w wr w' : World} {D E : Nat → Prop} {g r : Nat} {L L2 : List (Option Nd)} {F F2 : List Nat} {X : Nat → Prop} (hT : RTurn w wr E r L2 F2 w') (hA : Ar wr D g L F) (hEl : ∀ b, E b → b < wr.heap.size)
    (hD : ∀ b, D b → w.heap.size ≤ b) (hE : ∀ b, E b → w.heap.size ≤ b) (hDE : ∀ b, D b → ¬ E b) (hX : ∀ b, X b → ¬ D b ∧ ¬ E b ∧ b < wr.heap.size) (hb : Below w.heap.size w wr) : PS w g r L F L2 F2 X w' ∧ Agree X wr w' := by
  obtain ⟨E', P, T, Q, pc, tc, qc, xs, hR, he, ho⟩ := hT
  have hDl := hA.lt
  refine ⟨⟨D, E', P, T, Q, pc, tc, qc, xs, hA.keep (ho.agree fun b hb he' => hDE b hb he'), hR, hD, fun b hb' => (he b hb').elim (hE b) (fun h => Nat.le_trans hb.size h), fun b hb' he' => ?_, fun b hx => ⟨(hX b hx).1, fun he' => ?_, Nat.lt_of_lt_of_le (hX b hx).2.2 ho.size⟩, hb.trans (ho.below hE hb.size)⟩, ho.agree fun b hx => (hX b hx).2.1⟩
  · rcases he b he' with h | h
    · exact hDE b hb' h
    · have := hDl b hb'; omega
  · rcases he b he' with h | h
    · exact (hX b hx).2.1 h
    · have := (hX b hx).2.2; omega
/-- Behind what makes memory alone: the new blocks are apart, too. -/
theorem PS.below {w wr w' : World} {g r : Nat} {L L2 : List (Option Nd)} {F F2 : List Nat} {X X' : Nat → Prop} (h : PS w g r L F L2 F2 X wr) (hb : Below wr.heap.size wr w') (hX' : ∀ b, X' b → X b ∨ (wr.heap.size ≤ b ∧ b < w'.heap.size)) : PS w g r L F L2 F2 X' w' := by
  obtain ⟨D, E, P, T, Q, pc, tc, qc, xs, h1, h2, h3, h4, h5, h6, h7⟩ := h
  have hDl := h1.lt
  have hEl := h2.1.lt
  refine ⟨D, E, P, T, Q, pc, tc, qc, xs, h1.keep (below_all hb), h2.keep (below_all hb), h3, h4, h5, fun b hx => ?_, h7.trans (hb.mono h7.size)⟩
  rcases hX' b hx with h | h
  · exact ⟨(h6 b h).1, (h6 b h).2.1, Nat.lt_of_lt_of_le (h6 b h).2.2 hb.size⟩
  · exact ⟨fun hd => by have := hDl b hd; omega, fun he => by have := hEl b he; omega, h.2⟩
/-- Behind a store into a block that is apart (and not one that was there at the beginning). -/
theorem PS.set {w wr : World} {g r : Nat} {L L2 : List (Option Nd)} {F F2 : List Nat} {X : Nat → Prop} (h : PS w g r L F L2 F2 X wr) (p : Addr) (u : Value) (hx : X p.block) (hw : w.heap.size ≤ p.block) : PS w g r L F L2 F2 X (wr.setCell p u) := by
  obtain ⟨D, E, P, T, Q, pc, tc, qc, xs, h1, h2, h3, h4, h5, h6, h7⟩ := h
  exact ⟨D, E, P, T, Q, pc, tc, qc, xs, h1.keep (agree_set _ _ _ (h6 _ hx).1), h2.keep (agree_set _ _ _ (h6 _ hx).2.1), h3, h4, h5, fun b hb => by simpa [World.setCell] using h6 b hb, h7.setCell hw u⟩
theorem PS.less {w wr : World} {g r : Nat} {L L2 : List (Option Nd)} {F F2 : List Nat} {X X' : Nat → Prop} (h : PS w g r L F L2 F2 X wr) (hX : ∀ b, X' b → X b) : PS w g r L F L2 F2 X' wr := h.below (Below.refl _ _) fun b hb => .inl (hX b hb)
theorem PS.agree {w wr w' : World} {g r : Nat} {L L2 : List (Option Nd)} {F F2 : List Nat} {X : Nat → Prop} (h : PS w g r L F L2 F2 X wr) (hd : Drawn wr w') : PS w g r L F L2 F2 X w' := by
  obtain ⟨d, rfl⟩ := hd
  exact h.below (below_drawn ⟨d, rfl⟩) fun b hb => .inl hb

def mkI (L : List (Option Nd)) (F : List Nat) : Nat := F.getLast?.getD L.length
def mkL (L : List (Option Nd)) (F : List Nat) (x : Nd) : List (Option Nd) := match F.getLast? with
  | none => L ++ [some x]
  | some k => L.set k (some x)
theorem mk_nil (L : List (Option Nd)) (x : Nd) : mkI L [] = L.length ∧ mkL L [] x = L ++ [some x] := ⟨rfl, rfl⟩
theorem mk_last (L : List (Option Nd)) (F : List Nat) (k : Nat) (x : Nd) : mkI L (F ++ [k]) = k ∧ mkL L (F ++ [k]) x = L.set k (some x) ∧ (F ++ [k]).dropLast = F := by
  unfold mkI mkL
  simp
theorem mkL_len (L : List (Option Nd)) (F : List Nat) (x : Nd) : (mkL L F x).length ≤ L.length + 1 ∧ F.dropLast.length ≤ F.length := by
  unfold mkL
  refine ⟨?_, by simp⟩
  split <;> simp

theorem ps_make {w : World} {g r : Nat} {L L2 : List (Option Nd)} {F F2 : List Nat} {X : Nat → Prop} {wr : World} (h : PS w g r L F L2 F2 X wr) (hN : L.length ≤ 10000) (hM : F.length ≤ 10000) {hh : Nh} {x : Nd} (hr : On (fun b => b < w.heap.size ∨ X b) wr (NdR · hh x)) (hs : SmallN x) :
    Calls Try.prog 10 #[.pointer (some ⟨g, 0, none⟩), ndV hh x] wr fun e w' => e = .returned (.int .i64 (mkI L F)) ∧ PS w g r (mkL L F x) F.dropLast L2 F2 X w' ∧ Agree X wr w' := by
  obtain ⟨D, E, P, T, Q, pc, tc, qc, xs, h1, h2, h3, h4, h5, h6, h7⟩ := h
  have hr' := hr.mono (C' := fun b => ¬ D b) (fun b hb hd => by
    rcases hb with hb | hb
    · have := h3 b hd; omega
    · exact (h6 b hb).1 hd)
  rcases List.eq_nil_or_concat F with rfl | ⟨F0, k, rfl⟩
  · refine (make_new h1 hN hr'.here hs).mono fun e w' ⟨e1, hT⟩ => ?_
    obtain ⟨m1, m2⟩ := mk_nil L x
    rw [m1, m2]
    exact ⟨e1, ps_turn hT h1.lt h2 h3 h4 h5 h6 h7⟩
  · rw [List.concat_eq_append] at *
    refine (make_pop h1 hN (by simp at hM; omega) hr' hs).mono fun e w' ⟨e1, hT⟩ => ?_
    obtain ⟨m1, m2, m3⟩ := mk_last L F0 k x
    rw [m1, m2, m3]
    exact ⟨e1, ps_turn hT h1.lt h2 h3 h4 h5 h6 h7⟩
theorem ps_rmake {w : World} {g r : Nat} {L L2 : List (Option Nd)} {F F2 : List Nat} {X : Nat → Prop} {wr : World} (h : PS w g r L F L2 F2 X wr) (hf : FreeOk L2 F2) (hN : L2.length ≤ 10000) (hM : F2.length ≤ 10000) {hh : Nh} {x : Nd} (hr : NdR w hh x) :
    Calls Try.prog 11 #[.pointer (some ⟨r, 0, none⟩), ndV hh x] wr fun e w' => e = .returned (.int .i64 (mkI L2 F2)) ∧ PS w g r L F (mkL L2 F2 x) F2.dropLast X w' ∧ Agree X wr w' := by
  obtain ⟨D, E, P, T, Q, pc, tc, qc, xs, h1, h2, h3, h4, h5, h6, h7⟩ := h
  rcases List.eq_nil_or_concat F2 with rfl | ⟨F0, k, rfl⟩
  · refine (rmake_new h2 hN hr).mono fun e w' ⟨e1, hT⟩ => ?_
    obtain ⟨m1, m2⟩ := mk_nil L2 x
    rw [m1, m2]
    exact ⟨e1, ps_rturn hT h1 h2.1.lt h3 h4 h5 h6 h7⟩
  · rw [List.concat_eq_append] at *
    refine (rmake_pop h2 (hf.2 k (by simp)).1 hN (by simp at hM; omega) hr).mono fun e w' ⟨e1, hT⟩ => ?_
    obtain ⟨m1, m2, m3⟩ := mk_last L2 F0 k x
    rw [m1, m2, m3]
    exact ⟨e1, ps_rturn hT h1 h2.1.lt h3 h4 h5 h6 h7⟩
theorem ps_is {w : World} {g r : Nat} {L L2 : List (Option Nd)} {F F2 : List Nat} {X : Nat → Prop} {wr : World} (h : PS w g r L F L2 F2 X wr) (i : Int) (hi : i ≤ 9223372036854775807) :
    Calls Try.prog 8 #[.pointer (some ⟨r, 0, none⟩), .int .i64 i] wr fun e w' => e = .returned (.bool (usedB L2 i)) ∧ wr = w' := by
  obtain ⟨D, E, P, T, Q, pc, tc, qc, xs, h1, h2, h3, h4, h5, h6, h7⟩ := h
  exact is_any h2 i hi
theorem ps_set {w : World} {g r : Nat} {L L2 : List (Option Nd)} {F F2 : List Nat} {X : Nat → Prop} {wr : World} (h : PS w g r L F L2 F2 X wr) (i : Int) (hi : i ≤ 9223372036854775807) {hh : Nh} {x : Nd} (hr : NdR wr hh x) (hs : SmallN x) :
    Calls Try.prog 13 #[.pointer (some ⟨g, 0, none⟩), .int .i64 i, ndV hh x] wr fun e w' => e = .returned (errV (if usedB L i then 0 else 3)) ∧ PS w g r (if usedB L i then L.set i.toNat (some x) else L) F L2 F2 X w' ∧ Agree X wr w' := by
  obtain ⟨D, E, P, T, Q, pc, tc, qc, xs, h1, h2, h3, h4, h5, h6, h7⟩ := h
  have hc : Calls Try.prog 13 #[.pointer (some ⟨g, 0, none⟩), .int .i64 i, ndV hh x] wr (SetOut wr D g L F i x) := by
    cases hu : usedB L i
    · exact set_no h1 i hi hu hh x
    · unfold usedB at hu
      simp at hu
      obtain ⟨k, rfl⟩ := Int.eq_ofNat_of_zero_le hu.1
      obtain ⟨y, hy⟩ := Option.isSome_iff_exists.1 hu.2
      exact set_yes h1 k (by simpa using hy) hr hs
  exact hc.mono fun e w' ⟨e1, hT⟩ => ⟨e1, ps_turn hT h1.lt h2 h3 h4 h5 h6 h7⟩
theorem ps_free {w : World} {g r : Nat} {L L2 : List (Option Nd)} {F F2 : List Nat} {X : Nat → Prop} {wr : World} (h : PS w g r L F L2 F2 X wr) (i : Int) (hi : i ≤ 9223372036854775807) (hF : F.length ≤ 10000) :
    Calls Try.prog 15 #[.pointer (some ⟨g, 0, none⟩), .int .i64 i] wr fun e w' => e = .returned (errV (if usedB L i then 0 else 3)) ∧ PS w g r (if usedB L i then L.set i.toNat none else L) (if usedB L i then F ++ [i.toNat] else F) L2 F2 X w' ∧ Agree X wr w' := by
  obtain ⟨D, E, P, T, Q, pc, tc, qc, xs, h1, h2, h3, h4, h5, h6, h7⟩ := h
  exact (free_any h1 i hi hF).mono fun e w' ⟨e1, hT⟩ => ⟨e1, ps_turn hT h1.lt h2 h3 h4 h5 h6 h7⟩
theorem ps_get {w : World} {g r : Nat} {L L2 : List (Option Nd)} {F F2 : List Nat} {X : Nat → Prop} {wr : World} (h : PS w g r L F L2 F2 X wr) (i : Int) (hi : i ≤ 9223372036854775807) :
    Calls Try.prog 16 #[.pointer (some ⟨g, 0, none⟩), .int .i64 i] wr (GotO wr L i) := by
  obtain ⟨D, E, P, T, Q, pc, tc, qc, xs, h1, h2, h3, h4, h5, h6, h7⟩ := h
  exact get_own h1 i hi
theorem ps_used {w : World} {g r : Nat} {L L2 : List (Option Nd)} {F F2 : List Nat} {X : Nat → Prop} {wr : World} (h : PS w g r L F L2 F2 X wr) :
    Calls Try.prog 18 #[.pointer (some ⟨g, 0, none⟩)] wr fun e w' => e = .returned (.int .i64 (L.length - F.length)) ∧ Drawn wr w' := by
  obtain ⟨D, E, P, T, Q, pc, tc, qc, xs, h1, h2, h3, h4, h5, h6, h7⟩ := h
  exact used_any h1
theorem ps_len {w : World} {g r : Nat} {L L2 : List (Option Nd)} {F F2 : List Nat} {X : Nat → Prop} {wr : World} (h : PS w g r L F L2 F2 X wr) :
    Calls Try.prog 19 #[.pointer (some ⟨g, 0, none⟩)] wr fun e w' => e = .returned (.int .i64 L.length) ∧ wr = w' := by
  obtain ⟨D, E, P, T, Q, pc, tc, qc, xs, h1, h2, h3, h4, h5, h6, h7⟩ := h
  exact len_any h1
/-- The document's own arena's three cells. -/
theorem ps_three {w : World} {g r : Nat} {L L2 : List (Option Nd)} {F F2 : List Nat} {X : Nat → Prop} {wr : World} (h : PS w g r L F L2 F2 X wr) :
    ∃ P T Q pc tc qc, wr.cell? ⟨r, 0, none⟩ = some (.slice P L2.length pc) ∧ wr.cell? ⟨r, 1, none⟩ = some (.slice T L2.length tc) ∧ wr.cell? ⟨r, 2, none⟩ = some (.slice Q F2.length qc) ∧ L2.length ≤ maxLen ∧ F2.length ≤ maxLen ∧ r < wr.heap.size := by
  obtain ⟨D, E, P, T, Q, pc, tc, qc, xs, h1, h2, h3, h4, h5, h6, h7⟩ := h
  obtain ⟨c0, c1, c2, -, -, -⟩ := three_cells h2.1.hr
  have a0 := own_caps (h2.1.row 0 _ rfl)
  have a2 := own_caps (h2.1.row 2 _ rfl)
  exact ⟨P, T, Q, pc, tc, qc, c0, c1, c2, Nat.le_trans a0.1 a0.2.1, Nat.le_trans a2.1 a2.2.1, h2.1.lt r h2.1.er⟩
/-- A node of the document's own arena, where it lies. -/
theorem ps_node {w : World} {g r : Nat} {L L2 : List (Option Nd)} {F F2 : List Nat} {X : Nat → Prop} {wr : World} (h : PS w g r L F L2 F2 X wr) {k : Nat} {x : Nd} (hx : lat L2 k = some x) :
    ∃ p pc hh, wr.cell? ⟨r, 0, none⟩ = some (.slice (some ⟨p, 0, none⟩) L2.length pc) ∧ k < L2.length ∧ L2.length ≤ maxLen ∧ NdR wr hh x ∧ p < wr.heap.size ∧ r < wr.heap.size ∧ wr.cell? ⟨p, k * 5, none⟩ = some (.bool x.leaf) ∧ wr.cell? ⟨p, k * 5 + 1, none⟩ = some (.slice hh.A hh.n hh.c) ∧ wr.cell? ⟨p, k * 5 + 2, none⟩ = some (.slice hh.B hh.m hh.d) ∧
      wr.cell? ⟨p, k * 5 + 3, none⟩ = some (.slice hh.K hh.k hh.e) ∧ wr.cell? ⟨p, k * 5 + 4, none⟩ = some (.int .i64 x.next) := by
  obtain ⟨D, E, P, T, Q, pc, tc, qc, xs, h1, h2, h3, h4, h5, h6, h7⟩ := h
  have hk : k < L2.length := by
    rcases Nat.lt_or_ge k L2.length with h | h
    · exact h
    · rw [lat_out h] at hx; cases hx
  obtain ⟨c0, -, -, -, -, -⟩ := three_cells h2.1.hr
  have h0 := h2.1.row 0 _ rfl
  obtain ⟨p, rfl, -, hpl⟩ := own_at h0 (show 0 < L2.length by omega)
  obtain ⟨hh, e0, e1, e2, e3, e4, hr⟩ := h2.2 k x hx
  have a0 := own_caps h0
  exact ⟨p, pc, hh, c0, hk, Nat.le_trans a0.1 a0.2.1, hr.below h7, hpl, h2.1.lt r h2.1.er, (h0.cellAt _ (by show _ < L2.length * 5; omega)).trans e0, (h0.cellAt _ (by show _ < L2.length * 5; omega)).trans e1, (h0.cellAt _ (by show _ < L2.length * 5; omega)).trans e2, (h0.cellAt _ (by show _ < L2.length * 5; omega)).trans e3, (h0.cellAt _ (by show _ < L2.length * 5; omega)).trans e4⟩

/-- append of numbers that could be read at some time, nil included, to a row of one's own. -/
theorem wpList_append_ins {w w0 : World} {ops : Array Oper} {rest : List Oper} {o : Oper} {a : Act} {Q : Exit → Act → World → Prop} (hgd : o.guard = none) (s x : Operand)
    (ho : o.op = .call { callee := .builtin .append, args := #[s, x], argTypes := #[29, 29] })
    (base : Nat) (v : Value) (n : Nat) (xs : List Value) (hs : a.eval s = v) (hown : w.ownsRow base 3 1 v n xs)
    (A : Option Addr) (m c : Nat) (L : List Int) (hx : a.eval x = .slice A m c) (hp : Ins w0 A m c L) (hb : Below w0.heap.size w0 w) (h63 : n + m ≤ 3000) (hbase : base ≤ w.heap.size)
    (h : ∀ v' w', w'.ownsRow base 3 1 v' (n + m) (xs ++ L.map intV) → w.grownBy w' v.ownBlock → wpList Try.prog ops Q rest (a.put o.dst v') w') :
    wpList Try.prog ops Q (o :: rest) a w := by
  obtain ⟨i0, hi, hz0, hz1, hz2⟩ := info_parts Try.infoInt
  obtain ⟨hl, hc⟩ := hp.cells
  cases A with
  | none =>
    obtain rfl : c = 0 := hp.2.2.2.1 rfl
    obtain rfl : m = 0 := Nat.le_zero.1 hp.2.1
    have he : L.map intV = [] := List.eq_nil_of_length_eq_zero hl
    refine wpList_append_own_none (w := w) hgd s x _ ho base 3 i0 1 Try.underlying29 hi v n xs hs hown hx ?_
    exact h v w (by rw [he]; simpa using hown) (World.grownBy.refl _ _)
  | some ad =>
    refine wpList_append_own w hgd s x _ ho base 3 i0 (.int .i64 0) 1 8 Try.underlying29 hi hz0 hz1 hz2 rfl (by decide) v n xs hs hown ad m c (L.map intV) hx (by rw [hl, Nat.mul_one]) (fun j u hu => ?_) (fun u hu => ?_) (by unfold maxLen; omega) (by omega) hbase ?_
    · have hcell := hc ad rfl j u hu
      have hlt := World.block_lt_of_cell? w0 _ hcell
      exact (hb.cell hlt).trans hcell
    · obtain ⟨z, _, rfl⟩ := List.mem_map.1 hu
      rfl
    · intro v' w' h1 h2 _
      exact h v' w' h1 h2

theorem seven {w : World} {b : Nat} {T : TypeId} {a0 a1 a2 a3 a4 a5 a6 : Value} (h : w.heap[b]? = some (.cells #[a0, a1, a2, a3, a4, a5, a6] T (0, 0))) :
    w.cell? ⟨b, 0, none⟩ = some a0 ∧ w.cell? ⟨b, 1, none⟩ = some a1 ∧ w.cell? ⟨b, 2, none⟩ = some a2 ∧ w.cell? ⟨b, 3, none⟩ = some a3 ∧ w.cell? ⟨b, 4, none⟩ = some a4 ∧ w.cell? ⟨b, 5, none⟩ = some a5 ∧ w.cell? ⟨b, 6, none⟩ = some a6 := by
  simp [World.cell?, h]
theorem prs_old {w : World} {A : Option Addr} {n c : Nat} {L : List Pr} (h : Prs w A n c L) : On (· < w.heap.size) w (Prs · A n c L) := fun w' ⟨hs, hb⟩ => h.keep hs fun q hq => World.cell?_of_block (w := w) (a := q) (hb q.block hq hq)
theorem kys_old {w : World} {A : Option Addr} {n c : Nat} {L : List (List UInt8)} (h : Kys w A n c L) : On (· < w.heap.size) w (Kys · A n c L) := fun w' ⟨hs, hb⟩ => h.keep hs fun q hq => World.cell?_of_block (w := w) (a := q) (hb q.block hq hq)

/-- What the law makes in a round before it acts: the deed's box, the node's box with kids of its own. -/
def Boxed (w wr : World) (wh at' : Int) (dh : Nh) (dx : Nd) (O : Nat) (K : Option Addr) (kc : Nat) (W : World) : Prop :=
  wr.heap.size < O ∧ W.heap[wr.heap.size]? = some (.cells #[.int .i64 wh, .int .i64 at', .bool dx.leaf, .slice dh.A dh.n dh.c, .slice dh.B dh.m dh.d, .slice dh.K dh.k dh.e, .int .i64 dx.next] 37 (0, 0)) ∧
  W.heap[O]? = some (.cells #[.bool dx.leaf, .slice dh.A dh.n dh.c, .slice dh.B dh.m dh.d, .slice K dh.k kc, .int .i64 dx.next] 35 (0, 0)) ∧ O < W.heap.size ∧
  W.ownsRow (O + 1) 3 1 (.slice K dh.k kc) dh.k (dx.kids.map intV) ∧ Below wr.heap.size wr W

theorem boxed_of {w wr w3 w4 : World} {wh at' : Int} {dh : Nh} {dx : Nd} {v : Value} (hsz : wr.heap.size < w3.heap.size) (hbx : Below wr.heap.size wr w3)
    (hx : w3.heap[wr.heap.size]? = some (.cells #[.int .i64 wh, .int .i64 at', .bool dx.leaf, .slice dh.A dh.n dh.c, .slice dh.B dh.m dh.d, .slice dh.K dh.k dh.e, .int .i64 dx.next] 37 (0, 0)))
    (hown : w4.ownsRow (w3.heap.size + 1) 3 1 v dh.k (dx.kids.map intV))
    (hg : ((w3.alloc (.cells #[.bool dx.leaf, .slice dh.A dh.n dh.c, .slice dh.B dh.m dh.d, .slice dh.K dh.k dh.e, .int .i64 dx.next] 35)).alloc (.cells #[] 3)).grownBy w4 (some (w3.heap.size + 1))) :
    ∃ K kc, v = .slice K dh.k kc ∧ Boxed w wr wh at' dh dx w3.heap.size K kc (w4.setCell ⟨w3.heap.size, 3, none⟩ v) ∧ w4.cell? ⟨w3.heap.size, 3, none⟩ = some (.slice dh.K dh.k dh.e) ∧ w4.frozen? ⟨w3.heap.size, 3, none⟩ = false ∧ w4.cell? ⟨wr.heap.size, 1, none⟩ = some (.int .i64 at') := by
  obtain ⟨K, kc, rfl, -⟩ := own_new hown
  have hs4 : w3.heap.size + 1 + 1 ≤ w4.heap.size := by have := hg.size; simpa using this
  have hblk : ∀ b, b ≤ w3.heap.size → w4.heap[b]? = (w3.alloc (.cells #[.bool dx.leaf, .slice dh.A dh.n dh.c, .slice dh.B dh.m dh.d, .slice dh.K dh.k dh.e, .int .i64 dx.next] 35)).heap[b]? := fun b hb => by
    rw [hg.block b (by simp; omega) (by intro e; injection e with e; omega), Below.heap_alloc _ _ _ (by simp; omega)]
  have h1 : w4.heap[w3.heap.size]? = some (.cells #[.bool dx.leaf, .slice dh.A dh.n dh.c, .slice dh.B dh.m dh.d, .slice dh.K dh.k dh.e, .int .i64 dx.next] 35 (0, 0)) := (hblk _ (Nat.le_refl _)).trans (heap_alloc_new w3 _)
  obtain ⟨-, -, -, q3, -, -, -, -, f3, -⟩ := five h1
  refine ⟨K, kc, rfl, ⟨hsz, ?_, set3 _ h1, by simp [World.setCell]; omega, ownsRow_setCell_below hown (by show w3.heap.size < w3.heap.size + 1; omega) _, ?_⟩, q3, f3, ?_⟩
  · rw [Below.heap_setCell _ _ _ _ (by show wr.heap.size ≠ w3.heap.size; omega), hblk _ (by omega), Below.heap_alloc _ _ _ hsz]
    exact hx
  · refine (hbx.trans ?_).setCell (by show wr.heap.size ≤ w3.heap.size; omega) _
    exact (((Below.refl wr.heap.size w3).alloc (by omega) _).alloc (by simp; omega) _).grown hg (by simp; omega) (fun k hk => by injection hk with hk; omega)
  · have : w4.heap[wr.heap.size]? = _ := ((hblk _ (by omega)).trans (Below.heap_alloc _ _ _ hsz)).trans hx
    exact (seven this).2.1
theorem Boxed.ps {w wr : World} {wh at' : Int} {dh : Nh} {dx : Nd} {O : Nat} {K : Option Addr} {kc g r : Nat} {W : World} {L L2 : List (Option Nd)} {F F2 : List Nat} {X : Nat → Prop} (h : Boxed w wr wh at' dh dx O K kc W) (hp : PS w g r L F L2 F2 X wr) :
    PS w g r L F L2 F2 (fun b => wr.heap.size ≤ b ∧ b < W.heap.size) W := hp.below h.2.2.2.2.2 fun b hb => .inr hb
theorem Boxed.node {w wr : World} {wh at' : Int} {dh : Nh} {dx : Nd} {O : Nat} {K : Option Addr} {kc : Nat} {W : World} (h : Boxed w wr wh at' dh dx O K kc W) (hb : Below w.heap.size w wr) (hn : NdR w dh dx) :
    On (fun b => b < w.heap.size ∨ (wr.heap.size ≤ b ∧ b < W.heap.size)) W (NdR · ⟨dh.A, dh.n, dh.c, dh.B, dh.m, dh.d, K, dh.k, kc⟩ dx) := by
  obtain ⟨h1, h2, h3, h4, h5, h6⟩ := h
  have hw : Agree (· < w.heap.size) w W := below_agree (hb.trans (h6.mono hb.size)) fun b hb _ => hb
  have hk : On (fun b => O + 1 ≤ b) W (Ins · K dh.k kc dx.kids) := ins_on h5 (fun a e => by subst e; exact (h5.lt _ rfl).1)
  intro v hv
  exact ⟨(prs_old hn.1) v (hw.trans (hv.mono fun b hb => .inl hb)), (kys_old hn.2.1) v (hw.trans (hv.mono fun b hb => .inl hb)), hk.now v (hv.mono fun b hb => .inr ⟨by omega, hb.2⟩)⟩

theorem PS.drew {w wr : World} {g r : Nat} {L L2 : List (Option Nd)} {F F2 : List Nat} {X : Nat → Prop} (h : PS w g r L F L2 F2 X wr) : PS w g r L F L2 F2 X wr.drew :=
  h.below ⟨rfl, rfl, rfl, Nat.le_refl _, fun _ _ => rfl⟩ fun b hb => .inl hb
theorem PS.undrew {w wr : World} {g r : Nat} {L L2 : List (Option Nd)} {F F2 : List Nat} {X : Nat → Prop} (h : PS w g r L F L2 F2 X wr.drew) : PS w g r L F L2 F2 X wr :=
  h.below ⟨rfl, rfl, rfl, Nat.le_refl _, fun _ _ => rfl⟩ fun b hb => .inl hb
theorem agree_undrew {C : Nat → Prop} {w w' : World} (h : Agree C w.drew w') : Agree C w w' := h
theorem agree_redrew {C : Nat → Prop} {w w' : World} (h : Agree C w w') : Agree C w w'.drew := h

/-- Behind what the law does in a round: the two arenas stand for one, and the node's box is as it was. -/
def Aft (w : World) (G R j O lo hi : Nat) (K : Option Addr) (kc : Nat) (dh : Nh) (dx : Nd) (wx : World) : Prop :=
  lo < O ∧ O < hi ∧ (∀ a, K = some a → O + 1 ≤ a.block ∧ a.block < hi) ∧ ∃ L' F', PS w G R L' F' L' F' (fun b => lo ≤ b ∧ b < hi) wx ∧ L'.length ≤ j + 1 ∧ F'.length ≤ j + 1 ∧
    wx.heap[O]? = some (.cells #[.bool dx.leaf, .slice dh.A dh.n dh.c, .slice dh.B dh.m dh.d, .slice K dh.k kc, .int .i64 dx.next] 35 (0, 0)) ∧ wx.ownsRow (O + 1) 3 1 (.slice K dh.k kc) dh.k (dx.kids.map intV)
theorem aft_of {w wr W wx : World} {wh at' : Int} {dh : Nh} {dx : Nd} {O : Nat} {K : Option Addr} {kc G R j : Nat} {L' : List (Option Nd)} {F' : List Nat} (h : Boxed w wr wh at' dh dx O K kc W) (ha : Agree (fun b => wr.heap.size ≤ b ∧ b < W.heap.size) W wx)
    (hp : PS w G R L' F' L' F' (fun b => wr.heap.size ≤ b ∧ b < W.heap.size) wx) (hL : L'.length ≤ j + 1) (hF : F'.length ≤ j + 1) : Aft w G R j O wr.heap.size W.heap.size K kc dh dx wx := by
  obtain ⟨h1, h2, h3, h4, h5, h6⟩ := h
  refine ⟨h1, h4, fun a e => by subst e; exact h5.lt _ rfl, L', F', hp, hL, hF, by rw [ha.2 O ⟨by omega, h4⟩ h4]; exact h3, own_agree h5 ha fun k hk => ?_⟩
  have := h5.lt k hk
  exact ⟨by omega, this.2⟩
/-- Both boxes, in a world that agrees. -/
theorem Boxed.keep {w wr W wx : World} {wh at' : Int} {dh : Nh} {dx : Nd} {O : Nat} {K : Option Addr} {kc : Nat} (h : Boxed w wr wh at' dh dx O K kc W) (ha : Agree (fun b => wr.heap.size ≤ b ∧ b < W.heap.size) W wx) :
    (wx.cell? ⟨O, 0, none⟩ = some (.bool dx.leaf) ∧ wx.cell? ⟨O, 1, none⟩ = some (.slice dh.A dh.n dh.c) ∧ wx.cell? ⟨O, 2, none⟩ = some (.slice dh.B dh.m dh.d) ∧ wx.cell? ⟨O, 3, none⟩ = some (.slice K dh.k kc) ∧ wx.cell? ⟨O, 4, none⟩ = some (.int .i64 dx.next)) ∧
    (wx.cell? ⟨wr.heap.size, 0, none⟩ = some (.int .i64 wh) ∧ wx.cell? ⟨wr.heap.size, 1, none⟩ = some (.int .i64 at') ∧ wx.cell? ⟨wr.heap.size, 2, none⟩ = some (.bool dx.leaf) ∧ wx.cell? ⟨wr.heap.size, 3, none⟩ = some (.slice dh.A dh.n dh.c) ∧ wx.cell? ⟨wr.heap.size, 4, none⟩ = some (.slice dh.B dh.m dh.d) ∧ wx.cell? ⟨wr.heap.size, 5, none⟩ = some (.slice dh.K dh.k dh.e) ∧ wx.cell? ⟨wr.heap.size, 6, none⟩ = some (.int .i64 dx.next)) := by
  obtain ⟨h1, h2, h3, h4, h5, h6⟩ := h
  have hO := (ha.2 O ⟨by omega, h4⟩ h4).trans h3
  have hX := (ha.2 wr.heap.size ⟨Nat.le_refl _, by omega⟩ (by omega)).trans h2
  obtain ⟨a, b, c, d, e, -⟩ := five hO
  exact ⟨⟨a, b, c, d, e⟩, seven hX⟩

theorem is_same {L : List (Option Nd)} {k : Nat} {x y : Nd} (h : lat L k = some y) : (L.set k (some x)).map isV = L.map isV := by
  rw [List.map_set]
  apply List.ext_getElem?
  intro i
  by_cases e : i = k
  · subst e
    by_cases hl : i < L.length
    · rw [List.getElem?_set_self (by simpa using hl)]
      rw [lat_eq hl] at h
      simp [hl, h, isV]
    · rw [List.getElem?_eq_none (by simp; omega), List.getElem?_eq_none (by simp; omega)]
  · rw [List.getElem?_set_ne (fun h => e h.symm)]

/-- A node of the document's own arena is set. -/
theorem ps_store {w wr : World} {g r : Nat} {L L2 : List (Option Nd)} {F F2 : List Nat} {X : Nat → Prop} {k : Nat} {y x : Nd} {hh : Nh} (h : PS w g r L F L2 F2 X wr) (hy : lat L2 k = some y) (hr : NdR w hh x) :
    ∃ p pc u0 u1 u2 u3 u4, wr.cell? ⟨r, 0, none⟩ = some (.slice (some ⟨p, 0, none⟩) L2.length pc) ∧ k < L2.length ∧ L2.length ≤ maxLen ∧ p < wr.heap.size ∧ r < wr.heap.size ∧ p ≠ r ∧ (∀ b, X b → b ≠ p) ∧
      wr.cell? ⟨p, k * 5, none⟩ = some u0 ∧ wr.cell? ⟨p, k * 5 + 1, none⟩ = some u1 ∧ wr.cell? ⟨p, k * 5 + 2, none⟩ = some u2 ∧ wr.cell? ⟨p, k * 5 + 3, none⟩ = some u3 ∧ wr.cell? ⟨p, k * 5 + 4, none⟩ = some u4 ∧ (∀ o, wr.frozen? ⟨p, o, none⟩ = false) ∧
      ∀ w6, Below wr.heap.size wr w6 → PS w g r L F (L2.set k (some x)) F2 X (((((w6.setCell ⟨p, k * 5, none⟩ (.bool x.leaf)).setCell ⟨p, k * 5 + 1, none⟩ (.slice hh.A hh.n hh.c)).setCell ⟨p, k * 5 + 2, none⟩ (.slice hh.B hh.m hh.d)).setCell ⟨p, k * 5 + 3, none⟩ (.slice hh.K hh.k hh.e)).setCell ⟨p, k * 5 + 4, none⟩ (.int .i64 x.next)) ∧
        Agree X wr (((((w6.setCell ⟨p, k * 5, none⟩ (.bool x.leaf)).setCell ⟨p, k * 5 + 1, none⟩ (.slice hh.A hh.n hh.c)).setCell ⟨p, k * 5 + 2, none⟩ (.slice hh.B hh.m hh.d)).setCell ⟨p, k * 5 + 3, none⟩ (.slice hh.K hh.k hh.e)).setCell ⟨p, k * 5 + 4, none⟩ (.int .i64 x.next)) := by
  obtain ⟨D, E, P, T, Q, pc, tc, qc, xs, h1, h2, h3, h4, h5, h6, h7⟩ := h
  have hk : k < L2.length := by
    rcases Nat.lt_or_ge k L2.length with h | h
    · exact h
    · rw [lat_out h] at hy; cases hy
  obtain ⟨c0, -, -, -, -, -⟩ := three_cells h2.1.hr
  obtain ⟨p, u0, u1, u2, u3, u4, rfl, hEp, hpr, g0, g1, g2, g3, g4, fz⟩ := own_five h2.1 hk
  have a0 := own_caps (h2.1.row 0 _ rfl)
  refine ⟨p, pc, u0, u1, u2, u3, u4, c0, hk, Nat.le_trans a0.1 a0.2.1, h2.1.lt p hEp, h2.1.lt r h2.1.er, hpr, fun b hb e => (h6 b hb).2.1 (e ▸ hEp), g0, g1, g2, g3, g4, fz, fun w6 hb6 => ?_⟩
  have ho5 := (h2.1.keep (below_all hb6)).five5 (k * 5) (.bool x.leaf) (.slice hh.A hh.n hh.c) (.slice hh.B hh.m hh.d) (.slice hh.K hh.k hh.e) (.int .i64 x.next)
  have hri := h2.2.set hk (by exact (h2.1.row 0 _ rfl).1) hr
  have hon := five_only (below_only (D := E) hb6) (.inr hEp) (k * 5) (.bool x.leaf) (.slice hh.A hh.n hh.c) (.slice hh.B hh.m hh.d) (.slice hh.K hh.k hh.e) (.int .i64 x.next)
  generalize ((((w6.setCell ⟨p, k * 5, none⟩ (.bool x.leaf)).setCell ⟨p, k * 5 + 1, none⟩ (.slice hh.A hh.n hh.c)).setCell ⟨p, k * 5 + 2, none⟩ (.slice hh.B hh.m hh.d)).setCell ⟨p, k * 5 + 3, none⟩ (.slice hh.K hh.k hh.e)).setCell ⟨p, k * 5 + 4, none⟩ (.int .i64 x.next) = W5 at ho5 hon ⊢
  refine ps_rturn ⟨E, some ⟨p, 0, none⟩, T, Q, pc, tc, qc, _, ⟨?_, hri⟩, fun b hb => .inl hb, hon⟩ h1 h2.1.lt h3 h4 h5 h6 h7
  rw [List.length_set, is_same hy]
  exact ho5

/-- A number of the document's own arena is no longer there. -/
theorem ps_unset {w wr : World} {g r : Nat} {L L2 : List (Option Nd)} {F F2 : List Nat} {X : Nat → Prop} {k : Nat} (h : PS w g r L F L2 F2 X wr) (hk : k < L2.length) :
    ∃ t tc u, wr.cell? ⟨r, 1, none⟩ = some (.slice (some ⟨t, 0, none⟩) L2.length tc) ∧ L2.length ≤ maxLen ∧ t < wr.heap.size ∧ r < wr.heap.size ∧ t ≠ r ∧ (∀ b, X b → b ≠ t) ∧ wr.cell? ⟨t, k, none⟩ = some u ∧ wr.frozen? ⟨t, k, none⟩ = false ∧
      PS w g r L F (L2.set k none) F2 X (wr.setCell ⟨t, k, none⟩ (.bool false)) ∧ Agree X wr (wr.setCell ⟨t, k, none⟩ (.bool false)) := by
  obtain ⟨D, E, P, T, Q, pc, tc, qc, xs, h1, h2, h3, h4, h5, h6, h7⟩ := h
  obtain ⟨-, c1, -, -, -, -⟩ := three_cells h2.1.hr
  obtain ⟨t, u, rfl, hEt, htr, -, g0, fz⟩ := own_bit h2.1 hk
  have a0 := own_caps (h2.1.row 1 _ rfl)
  have ho := h2.1.store (i := 1) rfl rfl k (.bool false)
  simp only [List.set_cons_succ, List.set_cons_zero, is_set (o := none) false rfl] at ho
  refine ⟨t, tc, u, c1, Nat.le_trans a0.1 a0.2.1, h2.1.lt t hEt, h2.1.lt r h2.1.er, htr, fun b hb e => (h6 b hb).2.1 (e ▸ hEt), g0, fz k, ?_⟩
  refine ps_rturn ⟨E, P, some ⟨t, 0, none⟩, Q, pc, tc, qc, xs, ⟨?_, fun i x hx => ?_⟩, fun b hb => .inl hb, (Only.refl E wr).set _ _ (.inr hEt)⟩ h1 h2.1.lt h3 h4 h5 h6 h7
  · rw [List.length_set]
    exact ho
  · rw [lat_set hk] at hx
    by_cases e : i = k
    · rw [if_pos e] at hx; cases hx
    · rw [if_neg e] at hx
      exact h2.2 i x hx

/-- A number more of the document's own arena is free. -/
theorem ps_push {w wr : World} {g r : Nat} {L L2 : List (Option Nd)} {F F2 : List Nat} {X : Nat → Prop} (k : Nat) (h : PS w g r L F L2 F2 X wr) :
    ∃ Q qc, wr.cell? ⟨r, 2, none⟩ = some (.slice Q F2.length qc) ∧ wr.frozen? ⟨r, 2, none⟩ = false ∧ r < wr.heap.size ∧ some r ≠ (Value.slice Q F2.length qc).ownBlock ∧ wr.ownsRow 0 3 1 (.slice Q F2.length qc) F2.length (F2.map natV) ∧
      ∀ w2 w3 q' c', Below wr.heap.size wr w2 → w3.ownsRow 0 3 1 (.slice (some ⟨q', 0, none⟩) (F2.length + 1) c') (F2.length + 1) (F2.map natV ++ [natV k]) → w2.grownBy w3 (Value.slice Q F2.length qc).ownBlock → ((Value.slice Q F2.length qc).ownBlock = some q' ∨ wr.heap.size ≤ q') → q' < w3.heap.size →
        PS w g r L F L2 (F2 ++ [k]) X (w3.setCell ⟨r, 2, none⟩ (.slice (some ⟨q', 0, none⟩) (F2.length + 1) c')) ∧ Agree X wr (w3.setCell ⟨r, 2, none⟩ (.slice (some ⟨q', 0, none⟩) (F2.length + 1) c')) := by
  obtain ⟨D, E, P, T, Q, pc, tc, qc, xs, h1, h2, h3, h4, h5, h6, h7⟩ := h
  obtain ⟨-, -, c2, -, -, f2⟩ := three_cells h2.1.hr
  refine ⟨Q, qc, c2, f2, h2.1.lt r h2.1.er, fun e => ?_, h2.1.row 2 _ rfl, fun w2 w3 q' c' hb hown hg hat hlt => ?_⟩
  · cases Q with
    | none => cases e
    | some a => injection e with e; exact (h2.1.el 2 _ rfl a rfl).2 e.symm
  · obtain ⟨ho, hon⟩ := h2.1.push (i := 2) rfl hb hown hg hat hlt
    simp only [List.set_cons_succ, List.set_cons_zero] at ho
    generalize w3.setCell ⟨r, 2, none⟩ (.slice (some ⟨q', 0, none⟩) (F2.length + 1) c') = W3 at ho hon ⊢
    refine ps_rturn ⟨grow E wr W3, P, T, some ⟨q', 0, none⟩, pc, tc, c', xs, ⟨?_, h2.2⟩, fun b hb => hb.imp id (fun h => h.1), hon⟩ h1 h2.1.lt h3 h4 h5 h6 h7
    rw [List.length_append, List.map_append]
    exact ho

/-- A node's box at O whose kids are a row of one's own, beside the two arenas. -/
def KInv (w : World) (G R : Nat) (L : List (Option Nd)) (F : List Nat) (X : Nat → Prop) (O : Nat) (a b c : Value) (K : Option Addr) (k kc : Nat) (nx : Value) (wy : World) : Prop :=
  PS w G R L F L F X wy ∧ wy.heap[O]? = some (.cells #[a, b, c, .slice K k kc, nx] 35 (0, 0)) ∧ (∀ x, K = some x → X x.block ∧ w.heap.size ≤ x.block ∧ x.block ≠ O) ∧ ∃ ys, wy.ownsRow 0 3 1 (.slice K k kc) k ys ∧ ∀ u ∈ ys, ∃ z, u = .int .i64 z
theorem KInv.at_ {w : World} {G R : Nat} {L : List (Option Nd)} {F : List Nat} {X : Nat → Prop} {O : Nat} {a b c : Value} {K : Option Addr} {k kc : Nat} {nx : Value} {wy : World} (h : KInv w G R L F X O a b c K k kc nx wy) {t : Nat} (ht : t < k) :
    ∃ kb z, K = some ⟨kb, 0, none⟩ ∧ kb ≠ O ∧ kb < wy.heap.size ∧ wy.cell? ⟨kb, t, none⟩ = some (.int .i64 z) ∧ wy.frozen? ⟨kb, t, none⟩ = false := by
  obtain ⟨h1, h2, h3, ys, h4, h5⟩ := h
  obtain ⟨kb, rfl, -, hl⟩ := own_at h4 (by omega)
  have hyl := h4.1
  obtain ⟨z, hz⟩ := h5 (ys[t]'(by omega)) (List.getElem_mem _)
  exact ⟨kb, z, rfl, (h3 _ rfl).2.2, hl, by rw [h4.cellAt t (by omega), List.getElem?_eq_getElem (by omega), hz], h4.frozenAt t⟩
theorem KInv.set {w : World} {G R : Nat} {L : List (Option Nd)} {F : List Nat} {X : Nat → Prop} {O kb : Nat} {a b c : Value} {k kc : Nat} {nx : Value} {wy : World} (h : KInv w G R L F X O a b c (some ⟨kb, 0, none⟩) k kc nx wy) (t : Nat) (z : Int) :
    KInv w G R L F X O a b c (some ⟨kb, 0, none⟩) k kc nx (wy.setCell ⟨kb, t, none⟩ (.int .i64 z)).drew := by
  obtain ⟨h1, h2, h3, ys, h4, h5⟩ := h
  obtain ⟨hx, hw, hO⟩ := h3 _ rfl
  refine ⟨(h1.set ⟨kb, t, none⟩ _ hx hw).drew, set_other _ _ h2 (fun e => hO e.symm), h3, ys.set t (.int .i64 z), own_set h4 t _, fun u hu => ?_⟩
  rcases List.mem_or_eq_of_mem_set hu with hu | hu
  · exact h5 u hu
  · exact ⟨z, hu⟩
theorem KInv.undraw {w : World} {G R : Nat} {L : List (Option Nd)} {F : List Nat} {X : Nat → Prop} {O : Nat} {a b c : Value} {K : Option Addr} {k kc : Nat} {nx : Value} {wy : World} (h : KInv w G R L F X O a b c K k kc nx wy) : KInv w G R L F X O a b c K k kc nx wy.drew := by
  obtain ⟨h1, h2, h3, ys, h4, h5⟩ := h
  exact ⟨h1.drew, h2, h3, ys, h4, h5⟩
theorem nums_int (L : List Int) : ∀ u ∈ L.map intV, ∃ z, u = Value.int .i64 z := by
  intro u hu
  obtain ⟨z, _, rfl⟩ := List.mem_map.1 hu
  exact ⟨z, rfl⟩
theorem Aft.kinv {w : World} {G R j O lo hi : Nat} {K : Option Addr} {kc : Nat} {dh : Nh} {dx : Nd} {wx : World} (h : Aft w G R j O lo hi K kc dh dx wx) (hlo : w.heap.size ≤ lo) :
    ∃ L' F', L'.length ≤ j + 1 ∧ F'.length ≤ j + 1 ∧ KInv w G R L' F' (fun b => lo ≤ b ∧ b < hi) O (.bool dx.leaf) (.slice dh.A dh.n dh.c) (.slice dh.B dh.m dh.d) K dh.k kc (.int .i64 dx.next) wx := by
  obtain ⟨h1, h2, h3, L', F', h4, h5, h6, h7, h8⟩ := h
  refine ⟨L', F', h5, h6, h4, h7, fun a e => ?_, _, h8.mono (Nat.zero_le _), nums_int _⟩
  have := h3 a e
  exact ⟨⟨by omega, this.2⟩, by omega, by omega⟩

theorem KInv.below {w : World} {G R : Nat} {L : List (Option Nd)} {F : List Nat} {X : Nat → Prop} {O : Nat} {a b c : Value} {K : Option Addr} {k kc : Nat} {nx : Value} {wy w' : World} (h : KInv w G R L F X O a b c K k kc nx wy) (hO : O < wy.heap.size) (hb : Below wy.heap.size wy w') : KInv w G R L F X O a b c K k kc nx w' := by
  obtain ⟨h1, h2, h3, ys, h4, h5⟩ := h
  exact ⟨h1.below hb fun b hb => .inl hb, (hb.block O hO).trans h2, h3, ys, own_keep h4 hb, h5⟩
/-- What Get told, in the law's own box. -/
theorem told_kinv {w wr w7 : World} {G R : Nat} {L : List (Option Nd)} {F : List Nat} {a b c nx : Value} {K : Option Addr} {k kc : Nat} {X : Nat → Prop} {is : List Int} (hp : PS w G R L F L F X wr) (hb : Below wr.heap.size wr w7) (hown : w7.ownsRow (wr.heap.size + 1) 3 1 (.slice K k kc) k (is.map intV)) :
    ∃ W8, W8 = w7.alloc (.cells #[a, b, c, .slice K k kc, nx] 35) ∧ Below wr.heap.size wr W8 ∧ W8.heap.size = w7.heap.size + 1 ∧ KInv w G R L F (fun i => wr.heap.size ≤ i ∧ i < w7.heap.size + 1) w7.heap.size a b c K k kc nx W8 := by
  have hb8 : Below wr.heap.size wr (w7.alloc (.cells #[a, b, c, .slice K k kc, nx] 35)) := hb.alloc hb.size _
  have hw := hp.size.size
  refine ⟨_, rfl, hb8, alloc_size rfl _, hp.below hb8 fun i hi => .inr ⟨hi.1, by rw [alloc_size rfl]; exact hi.2⟩, heap_alloc_new w7 _, fun x e => ?_, _, (hown.mono (Nat.zero_le _)).alloc _, nums_int _⟩
  subst e
  have := hown.lt _ rfl
  exact ⟨⟨by omega, by omega⟩, by omega, by omega⟩
theorem PS.drewN {w wr : World} {g r : Nat} {L L2 : List (Option Nd)} {F F2 : List Nat} {X : Nat → Prop} (h : PS w g r L F L2 F2 X wr) (k : Nat) : PS w g r L F L2 F2 X (wr.drewN k) := h.agree ⟨k, rfl⟩
theorem got_used {L : List (Option Nd)} {k : Nat} {y : Nd} (h : lat L k = some y) : gotNd L (k : Int) = y := by
  unfold gotNd
  rw [usedB_some h]
  simp [h]
end Go.Proofs.Ytbphjhmmdkaggaa
