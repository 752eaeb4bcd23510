/- An arena: what it is in memory, which blocks are its own; contracts of New, uses, Used, Len. Condition: at most 10000 numbers. -/
import Derived.Test.YtbphjhmmdkaggaaNe
namespace Go.Proofs.Ytbphjhmmdkaggaa
open Go.RowKit
set_option linter.unusedVariables false

/-- What stands at a number. -/
def lat (L : List (Option Nd)) (i : Nat) : Option Nd := L.getD i none
theorem lat_eq {L : List (Option Nd)} {i : Nat} (h : i < L.length) : lat L i = L[i] := by unfold lat; simp [h]
theorem lat_out {L : List (Option Nd)} {i : Nat} (h : L.length ≤ i) : lat L i = none := by unfold lat; simp [h]
theorem lat_set {L : List (Option Nd)} {i j : Nat} {o : Option Nd} (h : i < L.length) : lat (L.set i o) j = if j = i then o else lat L j := by
  unfold lat
  simp only [List.getD_eq_getElem?_getD]
  by_cases e : j = i
  · subst e
    rw [List.getElem?_set_self h, if_pos rfl]
    rfl
  · rw [List.getElem?_set_ne (fun h => e h.symm), if_neg e]
theorem lat_push {L : List (Option Nd)} {j : Nat} {o : Option Nd} : lat (L ++ [o]) j = if j = L.length then o else lat L j := by
  unfold lat
  simp only [List.getD_eq_getElem?_getD]
  by_cases e : j = L.length
  · subst e
    rw [List.getElem?_append_right (Nat.le_refl _), if_pos rfl]
    simp
  · rw [if_neg e]
    by_cases hl : j < L.length
    · rw [List.getElem?_append_left hl]
    · rw [List.getElem?_append_right (by omega)]
      have : j - L.length ≠ 0 := by omega
      rw [List.getElem?_eq_none (l := L) (by omega)]
      rcases hd : j - L.length with _ | q
      · omega
      · rfl

/-- The free numbers: each once; none of them has a node. -/
def FreeOk (L : List (Option Nd)) (F : List Nat) : Prop := F.Nodup ∧ ∀ i ∈ F, i < L.length ∧ lat L i = none

/-- What the place of a number holds. -/
def PlaceAt (C : Nat → Prop) (w : World) (xs : List Value) (i : Nat) : Option Nd → Prop
  | some x => ∃ h : Nh, xs[i * 6]? = some (.bool x.leaf) ∧ xs[i * 6 + 1]? = some (.slice h.A h.n h.c) ∧ xs[i * 6 + 2]? = some (.slice h.B h.m h.d) ∧ xs[i * 6 + 3]? = some (.slice h.K h.k h.e) ∧
      xs[i * 6 + 4]? = some (.int .i64 x.next) ∧ xs[i * 6 + 5]? = some (.bool true) ∧ SmallN x ∧ On C w (NdR · h x)
  | none => xs[i * 6 + 5]? = some (.bool false)
theorem PlaceAt.keep {C : Nat → Prop} {w w' : World} {xs : List Value} {i : Nat} {o : Option Nd} (h : PlaceAt C w xs i o) (ha : Agree C w w') : PlaceAt C w' xs i o := by
  cases o with
  | none => exact h
  | some x =>
    obtain ⟨h, e0, e1, e2, e3, e4, e5, hs, e6⟩ := h
    exact ⟨h, e0, e1, e2, e3, e4, e5, hs, e6.keep ha⟩
theorem PlaceAt.mono {C C' : Nat → Prop} {w : World} {xs : List Value} {i : Nat} {o : Option Nd} (h : PlaceAt C w xs i o) (hC : ∀ b, C b → C' b) : PlaceAt C' w xs i o := by
  cases o with
  | none => exact h
  | some x =>
    obtain ⟨h, e0, e1, e2, e3, e4, e5, hs, e6⟩ := h
    exact ⟨h, e0, e1, e2, e3, e4, e5, hs, e6.mono hC⟩
theorem PlaceAt.cells {C : Nat → Prop} {w : World} {xs ys : List Value} {i : Nat} {o : Option Nd} (h : PlaceAt C w xs i o) (he : ∀ r, r < 6 → ys[i * 6 + r]? = xs[i * 6 + r]?) : PlaceAt C w ys i o := by
  cases o with
  | none => exact (he 5 (by omega)).trans h
  | some x =>
    obtain ⟨h, e0, e1, e2, e3, e4, e5, e6⟩ := h
    exact ⟨h, (he 0 (by omega)).trans e0, (he 1 (by omega)).trans e1, (he 2 (by omega)).trans e2, (he 3 (by omega)).trans e3, (he 4 (by omega)).trans e4, (he 5 (by omega)).trans e5, e6⟩

abbrev natV (i : Nat) : Value := .int .i64 i

/-- Which blocks are whose: the arena's own cells, its places, its free numbers, its nodes (C), all of them (D). -/
structure Sep (w : World) (C D : Nat → Prop) (g : Nat) (P Q : Option Addr) : Prop where
  dg : D g
  cg : ¬ C g
  p : ∀ a, P = some a → D a.block ∧ ¬ C a.block ∧ a.block ≠ g
  q : ∀ a, Q = some a → D a.block ∧ ¬ C a.block ∧ a.block ≠ g
  pq : ∀ a b, P = some a → Q = some b → a.block ≠ b.block
  cd : ∀ b, C b → D b
  lt : ∀ b, D b → b < w.heap.size

/-- An arena at block g, within the blocks that D names: what stands at each number, and the free ones. -/
def ArW (w : World) (C D : Nat → Prop) (g : Nat) (L : List (Option Nd)) (F : List Nat) (P Q : Option Addr) (pc qc : Nat) (xs : List Value) : Prop :=
  w.heap[g]? = some (.cells #[.slice P L.length pc, .slice Q F.length qc] 58 (0, 0)) ∧
  w.ownsRow 0 63 6 (.slice P L.length pc) L.length xs ∧ w.ownsRow 0 3 1 (.slice Q F.length qc) F.length (F.map natV) ∧
  (∀ i, i < L.length → PlaceAt C w xs i (lat L i)) ∧ FreeOk L F ∧ Sep w C D g P Q
def Ar (w : World) (D : Nat → Prop) (g : Nat) (L : List (Option Nd)) (F : List Nat) : Prop := ∃ C P Q pc qc xs, ArW w C D g L F P Q pc qc xs

theorem Sep.keep {w w' : World} {C D : Nat → Prop} {g : Nat} {P Q : Option Addr} (h : Sep w C D g P Q) (hs : w.heap.size ≤ w'.heap.size) : Sep w' C D g P Q :=
  ⟨h.dg, h.cg, h.p, h.q, h.pq, h.cd, fun b hb => Nat.lt_of_lt_of_le (h.lt b hb) hs⟩
theorem ArW.keep {w w' : World} {C D : Nat → Prop} {g : Nat} {L : List (Option Nd)} {F : List Nat} {P Q : Option Addr} {pc qc : Nat} {xs : List Value} (h : ArW w C D g L F P Q pc qc xs) (ha : Agree D w w') : ArW w' C D g L F P Q pc qc xs := by
  obtain ⟨h1, h2, h3, h4, h5, h6⟩ := h
  refine ⟨by rw [ha.2 g h6.dg (h6.lt g h6.dg)]; exact h1, own_agree h2 ha fun k hk => ?_, own_agree h3 ha fun k hk => ?_, fun i hi => (h4 i hi).keep (ha.mono h6.cd), h5, h6.keep ha.1⟩
  · cases P with
    | none => cases hk
    | some a => injection hk with hk; subst hk; exact (h6.p a rfl).1
  · cases Q with
    | none => cases hk
    | some a => injection hk with hk; subst hk; exact (h6.q a rfl).1
theorem Ar.keep {w w' : World} {D : Nat → Prop} {g : Nat} {L : List (Option Nd)} {F : List Nat} (h : Ar w D g L F) (ha : Agree D w w') : Ar w' D g L F := by
  obtain ⟨C, P, Q, pc, qc, xs, h⟩ := h
  exact ⟨C, P, Q, pc, qc, xs, h.keep ha⟩
theorem Ar.lt {w : World} {D : Nat → Prop} {g : Nat} {L : List (Option Nd)} {F : List Nat} (h : Ar w D g L F) : ∀ b, D b → b < w.heap.size := by
  obtain ⟨C, P, Q, pc, qc, xs, h⟩ := h
  exact h.2.2.2.2.2.lt
theorem Ar.free {w : World} {D : Nat → Prop} {g : Nat} {L : List (Option Nd)} {F : List Nat} (h : Ar w D g L F) : FreeOk L F := by
  obtain ⟨C, P, Q, pc, qc, xs, h⟩ := h
  exact h.2.2.2.2.1

/-- Outside the blocks that D names nothing has turned. -/
structure Only (D : Nat → Prop) (w w' : World) : Prop where
  os : w'.os = w.os
  tape : w'.tape = w.tape
  output : w'.output = w.output
  size : w.heap.size ≤ w'.heap.size
  block : ∀ k, k < w.heap.size → ¬ D k → w'.heap[k]? = w.heap[k]?
theorem Only.refl (D : Nat → Prop) (w : World) : Only D w w := ⟨rfl, rfl, rfl, Nat.le_refl _, fun _ _ _ => rfl⟩
theorem Only.agree {D E : Nat → Prop} {w w' : World} (h : Only D w w') (hE : ∀ b, E b → ¬ D b) : Agree E w w' := ⟨h.size, fun b hb hl => h.block b hl (hE b hb)⟩
theorem Only.below {D : Nat → Prop} {w w' : World} {B : Nat} (h : Only D w w') (hD : ∀ b, D b → B ≤ b) (hB : B ≤ w.heap.size) : Below B w w' :=
  ⟨h.os, h.tape, h.output, h.size, fun k hk => h.block k (by omega) (fun hd => by have := hD k hd; omega)⟩
theorem below_only {D : Nat → Prop} {w w' : World} (h : Below w.heap.size w w') : Only D w w' := ⟨h.os, h.tape, h.output, h.size, fun k hk _ => h.block k hk⟩
theorem Only.trans {D : Nat → Prop} {a b c : World} (h : Only D a b) (k : Only D b c) : Only D a c :=
  ⟨k.os.trans h.os, k.tape.trans h.tape, k.output.trans h.output, Nat.le_trans h.size k.size, fun i hi hd => (k.block i (Nat.lt_of_lt_of_le hi h.size) hd).trans (h.block i hi hd)⟩
theorem Only.set {D : Nat → Prop} {a w : World} (h : Only D a w) (p : Addr) (u : Value) (hp : a.heap.size ≤ p.block ∨ D p.block) : Only D a (w.setCell p u) :=
  ⟨h.os, h.tape, h.output, by simpa [World.setCell] using h.size, fun k hk hd => by
    rw [Below.heap_setCell _ _ _ _ (fun e => by subst e; rcases hp with hp | hp; · omega
                                                · exact hd hp)]
    exact h.block k hk hd⟩
theorem Only.alloc {D : Nat → Prop} {a w : World} (h : Only D a w) (o : Obj) : Only D a (w.alloc o) :=
  ⟨h.os, h.tape, h.output, Nat.le_trans h.size (by simp), fun k hk hd => (Below.heap_alloc _ _ _ (Nat.lt_of_lt_of_le hk h.size)).trans (h.block k hk hd)⟩
theorem Only.grown {D : Nat → Prop} {a w w' : World} {row : Option Nat} (h : Only D a w) (hg : w.grownBy w' row) (hr : ∀ k, row = some k → a.heap.size ≤ k ∨ D k) : Only D a w' :=
  ⟨hg.os.trans h.os, hg.tape.trans h.tape, hg.output.trans h.output, Nat.le_trans h.size hg.size, fun k hk hd => (hg.block k (Nat.lt_of_lt_of_le hk h.size) (fun e => by
    rcases hr k e.symm with hr | hr
    · omega
    · exact hd hr)).trans (h.block k hk hd)⟩

/-- What is left of an arena by what turns it: its blocks are those that it had, or new ones; nothing else has turned. -/
def Turn (w : World) (D : Nat → Prop) (g : Nat) (L : List (Option Nd)) (F : List Nat) (w' : World) : Prop :=
  ∃ D', Ar w' D' g L F ∧ (∀ b, D' b → D b ∨ w.heap.size ≤ b) ∧ Only D w w'

theorem pair_cells {w : World} {b : Nat} {T : TypeId} {a0 a1 : Value} (h : w.heap[b]? = some (.cells #[a0, a1] T (0, 0))) :
    w.cell? ⟨b, 0, none⟩ = some a0 ∧ w.cell? ⟨b, 1, none⟩ = some a1 ∧ w.frozen? ⟨b, 0, none⟩ = false ∧ w.frozen? ⟨b, 1, none⟩ = false := by
  simp [World.cell?, World.frozen?, h]

set_option maxHeartbeats 400000 in
theorem new_any (w : World) : Calls Try.prog 6 #[] w fun e w' => e = .returned (.pointer (some ⟨w.heap.size, 0, none⟩)) ∧ Ar w' (· = w.heap.size) w.heap.size [] [] ∧ w'.heap.size = w.heap.size + 1 ∧ Below w.heap.size w w' := by
  go_enter Try.func6, Try.ntmps6
  go_wp2
  go_ret
  refine ⟨rfl, ⟨fun _ => False, none, none, 0, 0, [], heap_alloc_new w _, World.ownsRow_nil _ _ _ _, World.ownsRow_nil _ _ _ _, fun i hi => absurd hi (by simp), ⟨List.nodup_nil, (fun i hi => by cases hi)⟩, ⟨rfl, id, (fun a e => by cases e), (fun a e => by cases e), (fun a b e => by cases e), (fun b hb => False.elim hb), (fun b hb => by rw [hb]; simp)⟩⟩, by simp, (Below.refl _ _).alloc (Nat.le_refl _) _⟩

/-- Is there a node of that number? -/
def usedB (L : List (Option Nd)) (i : Int) : Bool := decide (0 ≤ i) && (lat L i.toNat).isSome

set_option maxHeartbeats 1000000 in
theorem uses_any {w : World} {C D : Nat → Prop} {g : Nat} {L : List (Option Nd)} {F : List Nat} {P Q : Option Addr} {pc qc : Nat} {xs : List Value} (h : ArW w C D g L F P Q pc qc xs) (i : Int) (hi : i ≤ 9223372036854775807) :
    Calls Try.prog 22 #[.pointer (some ⟨g, 0, none⟩), .int .i64 i] w fun e w' => e = .returned (.bool (usedB L i)) ∧ w = w' := by
  obtain ⟨h1, h2, h3, h4, h5, h6⟩ := h
  have hN : L.length ≤ maxLen := Nat.le_trans (own_caps h2).1 (own_caps h2).2.1
  unfold maxLen at hN
  obtain ⟨c0, -, -, -⟩ := pair_cells h1
  by_cases h0 : 0 ≤ i
  · obtain ⟨k, rfl⟩ := Int.eq_ofNat_of_zero_le h0
    have hu : usedB L (k : Int) = (lat L k).isSome := by unfold usedB; simp
    by_cases hk : k < L.length
    · obtain ⟨p, rfl, -, -⟩ := own_at h2 (by omega)
      have hc : w.cell? ⟨p, k * 6 + 5, none⟩ = some (.bool (lat L k).isSome) := by
        rw [h2.cellAt _ (by omega)]
        have := h4 k hk
        cases hl : lat L k with
        | none => rw [hl] at this; exact this
        | some x => rw [hl] at this; obtain ⟨_, _, _, _, _, _, e5, _⟩ := this; exact e5
      rw [hu]
      generalize (lat L k).isSome = b at hc
      generalize hn : L.length = n at c0 hk hN
      clear h1 h2 h3 h4 h5 h6 hu h0 hn
      go_enter Try.func22, Try.ntmps22
      go_wp2
      go_ret
      exact ⟨rfl, rfl⟩
    · rw [hu, lat_out (by omega)]
      generalize hn : L.length = n at c0 hk hN
      clear h1 h2 h3 h4 h5 h6 hu h0 hn
      have hk' : decide ((k : Int) < n) = false := by simp; omega
      go_enter Try.func22, Try.ntmps22
      go_wp2
      go_ret
      exact ⟨rfl, rfl⟩
  · have hu : usedB L i = false := by unfold usedB; simp; omega
    rw [hu]
    have h0' : decide (0 ≤ i) = false := by simp; omega
    clear h1 h2 h3 h4 h5 h6 hu
    go_enter Try.func22, Try.ntmps22
    go_wp2
    go_ret
    exact ⟨rfl, rfl⟩

set_option maxHeartbeats 1000000 in
theorem used_any {w : World} {D : Nat → Prop} {g : Nat} {L : List (Option Nd)} {F : List Nat} (h : Ar w D g L F) :
    Calls Try.prog 18 #[.pointer (some ⟨g, 0, none⟩)] w fun e w' => e = .returned (.int .i64 (L.length - F.length)) ∧ Drawn w w' := by
  obtain ⟨C, P, Q, pc, qc, xs, h1, h2, h3, h4, h5, h6⟩ := h
  have hN : L.length ≤ maxLen := Nat.le_trans (own_caps h2).1 (own_caps h2).2.1
  have hM : F.length ≤ maxLen := Nat.le_trans (own_caps h3).1 (own_caps h3).2.1
  unfold maxLen at hN hM
  obtain ⟨c0, c1, -, -⟩ := pair_cells h1
  generalize hn : L.length = n at *
  generalize hm : F.length = m at *
  clear h1 h2 h3 h4 h5 h6 hn hm
  go_enter Try.func18, Try.ntmps18
  go_wp2
  go_quiet (fail)
  go_wp2
  go_ret
  exact ⟨ret_int (by first | rfl | (rw [IntWalk.i64_in _ (by omega)])), ⟨_, rfl⟩⟩

set_option maxHeartbeats 1000000 in
theorem len_any {w : World} {D : Nat → Prop} {g : Nat} {L : List (Option Nd)} {F : List Nat} (h : Ar w D g L F) :
    Calls Try.prog 19 #[.pointer (some ⟨g, 0, none⟩)] w fun e w' => e = .returned (.int .i64 L.length) ∧ w = w' := by
  obtain ⟨C, P, Q, pc, qc, xs, h1, h2, h3, h4, h5, h6⟩ := h
  obtain ⟨c0, c1, -, -⟩ := pair_cells h1
  generalize hn : L.length = n at *
  clear h1 h2 h3 h4 h5 h6 hn
  go_enter Try.func19, Try.ntmps19
  go_wp2
  go_ret
  exact ⟨rfl, rfl⟩
end Go.Proofs.Ytbphjhmmdkaggaa
