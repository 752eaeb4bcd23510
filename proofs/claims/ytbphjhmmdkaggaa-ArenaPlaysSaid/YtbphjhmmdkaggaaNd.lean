/- The contract of package arena's apart: a node as new memory; nothing that was there is changed. Condition: what came in can be read; no list longer than 1000. -/
import Derived.Test.YtbphjhmmdkaggaaNc
import Derived.Deep.RegionHeld3
import Derived.Deep.Onto
namespace Go.Proofs.Ytbphjhmmdkaggaa
open Go.RowKit
set_option linter.unusedVariables false

theorem five {w : World} {b : Nat} {T : TypeId} {a0 a1 a2 a3 a4 : Value} (h : w.heap[b]? = some (.cells #[a0, a1, a2, a3, a4] T (0, 0))) :
    w.cell? ⟨b, 0, none⟩ = some a0 ∧ w.cell? ⟨b, 1, none⟩ = some a1 ∧ w.cell? ⟨b, 2, none⟩ = some a2 ∧ w.cell? ⟨b, 3, none⟩ = some a3 ∧ w.cell? ⟨b, 4, none⟩ = some a4 ∧
      w.frozen? ⟨b, 0, none⟩ = false ∧ w.frozen? ⟨b, 1, none⟩ = false ∧ w.frozen? ⟨b, 2, none⟩ = false ∧ w.frozen? ⟨b, 3, none⟩ = false ∧ w.frozen? ⟨b, 4, none⟩ = false := by
  simp [World.cell?, World.frozen?, h]

theorem set1 {w : World} {b : Nat} {T : TypeId} {a0 a1 a2 a3 a4 : Value} (u : Value) (h : w.heap[b]? = some (.cells #[a0, a1, a2, a3, a4] T (0, 0))) : (w.setCell ⟨b, 1, none⟩ u).heap[b]? = some (.cells #[a0, u, a2, a3, a4] T (0, 0)) := by
  simp [World.setCell, Array.getElem?_modify, h]
theorem set2 {w : World} {b : Nat} {T : TypeId} {a0 a1 a2 a3 a4 : Value} (u : Value) (h : w.heap[b]? = some (.cells #[a0, a1, a2, a3, a4] T (0, 0))) : (w.setCell ⟨b, 2, none⟩ u).heap[b]? = some (.cells #[a0, a1, u, a3, a4] T (0, 0)) := by
  simp [World.setCell, Array.getElem?_modify, h]
theorem set3 {w : World} {b : Nat} {T : TypeId} {a0 a1 a2 a3 a4 : Value} (u : Value) (h : w.heap[b]? = some (.cells #[a0, a1, a2, a3, a4] T (0, 0))) : (w.setCell ⟨b, 3, none⟩ u).heap[b]? = some (.cells #[a0, a1, a2, u, a4] T (0, 0)) := by
  simp [World.setCell, Array.getElem?_modify, h]
theorem set_other {w : World} {b : Nat} {o : Option Obj} (a : Addr) (u : Value) (h : w.heap[b]? = o) (hb : b ≠ a.block) : (w.setCell a u).heap[b]? = o := by
  rw [Below.heap_setCell _ _ _ _ hb]; exact h

/-- Cells that read as pairs, the bytes of pair t in blocks that C t names. -/
def ReadsC (C : Nat → Nat → Prop) (w : World) (xs : List Value) (L : List Pr) : Prop :=
  xs.length = L.length * 2 ∧ ∀ j, j < L.length → ∃ A n c B m d, xs[j * 2]? = some (.slice A n c) ∧ xs[j * 2 + 1]? = some (.slice B m d) ∧ On (C j) w (Byt · A n (gt L j).1) ∧ On (C j) w (Byt · B m (gt L j).2)
theorem ReadsC.keep {C : Nat → Nat → Prop} {w w' : World} {xs : List Value} {L : List Pr} (h : ReadsC C w xs L) (ha : ∀ t, Agree (C t) w w') : ReadsC C w' xs L :=
  ⟨h.1, fun j hj => by
    obtain ⟨A, n, c, B, m, d, e1, e2, e3, e4⟩ := h.2 j hj
    exact ⟨A, n, c, B, m, d, e1, e2, e3.keep (ha j), e4.keep (ha j)⟩⟩
theorem ReadsC.mono {C C' : Nat → Nat → Prop} {w : World} {xs : List Value} {L : List Pr} (h : ReadsC C w xs L) (hC : ∀ t, t < L.length → ∀ b, C t b → C' t b) : ReadsC C' w xs L :=
  ⟨h.1, fun j hj => by
    obtain ⟨A, n, c, B, m, d, e1, e2, e3, e4⟩ := h.2 j hj
    exact ⟨A, n, c, B, m, d, e1, e2, e3.mono (hC j hj), e4.mono (hC j hj)⟩⟩
theorem ReadsC.put {C C' : Nat → Nat → Prop} {w : World} {xs : List Value} {L : List Pr} (h : ReadsC C w xs L) {j : Nat} (hj : j < L.length) (hC : ∀ t, t ≠ j → ∀ b, C t b → C' t b) {A B : Option Addr} {n m : Nat} (c d : Nat)
    (ha : On (C' j) w (Byt · A n (gt L j).1)) (hb : On (C' j) w (Byt · B m (gt L j).2)) : ReadsC C' w ((xs.set (j * 2) (.slice A n c)).set (j * 2 + 1) (.slice B m d)) L := by
  have hl := h.1
  refine ⟨by simp [hl], fun i hi => ?_⟩
  by_cases e : i = j
  · subst e
    refine ⟨A, n, c, B, m, d, ?_, ?_, ha, hb⟩
    · rw [List.getElem?_set_ne (by omega), List.getElem?_set_self (by omega)]
    · rw [List.getElem?_set_self (by simp; omega)]
  · obtain ⟨A, n, c, B, m, d, e1, e2, e3, e4⟩ := h.2 i hi
    refine ⟨A, n, c, B, m, d, ?_, ?_, e3.mono (hC i e), e4.mono (hC i e)⟩
    · rw [List.getElem?_set_ne (by omega), List.getElem?_set_ne (by omega), e1]
    · rw [List.getElem?_set_ne (by omega), List.getElem?_set_ne (by omega), e2]
theorem prs_on {C : Nat → Prop} {w : World} {N n : Nat} {A : Option Addr} {c : Nat} {xs : List Value} {L : List Pr} (h : w.ownsRow N 66 2 (.slice A n c) n xs) (hr : ReadsC (fun _ => C) w xs L) (hC : ∀ a, A = some a → C a.block) : On C w (Prs · A n c L) := by
  intro w' ha
  have h' := own_agree h ha (fun k hk => by
    cases A with
    | none => cases hk
    | some a => injection hk with hk; subst hk; exact hC a rfl)
  obtain ⟨A', c', e, hp, _⟩ := own_prs h' (L := L) ⟨hr.1, fun j hj => by
    obtain ⟨A, n, c, B, m, d, e1, e2, e3, e4⟩ := hr.2 j hj
    exact ⟨A, n, c, B, m, d, e1, e2, e3 w' ha, e4 w' ha⟩⟩
  injection e with e1 e2 e3
  subst e1
  subst e3
  exact hp

/-- Cells that read as keys, the bytes of key t in blocks that C t names. -/
def KReads (C : Nat → Nat → Prop) (w : World) (xs : List Value) (L : List (List UInt8)) : Prop :=
  xs.length = L.length ∧ ∀ j, j < L.length → ∃ A n c, xs[j]? = some (.slice A n c) ∧ On (C j) w (Byt · A n (kat L j))
theorem KReads.keep {C : Nat → Nat → Prop} {w w' : World} {xs : List Value} {L : List (List UInt8)} (h : KReads C w xs L) (ha : ∀ t, Agree (C t) w w') : KReads C w' xs L :=
  ⟨h.1, fun j hj => by
    obtain ⟨A, n, c, e1, e2⟩ := h.2 j hj
    exact ⟨A, n, c, e1, e2.keep (ha j)⟩⟩
theorem KReads.mono {C C' : Nat → Nat → Prop} {w : World} {xs : List Value} {L : List (List UInt8)} (h : KReads C w xs L) (hC : ∀ t, t < L.length → ∀ b, C t b → C' t b) : KReads C' w xs L :=
  ⟨h.1, fun j hj => by
    obtain ⟨A, n, c, e1, e2⟩ := h.2 j hj
    exact ⟨A, n, c, e1, e2.mono (hC j hj)⟩⟩
theorem KReads.put {C C' : Nat → Nat → Prop} {w : World} {xs : List Value} {L : List (List UInt8)} (h : KReads C w xs L) {j : Nat} (hj : j < L.length) (hC : ∀ t, t ≠ j → ∀ b, C t b → C' t b) {A : Option Addr} {n : Nat} (c : Nat)
    (ha : On (C' j) w (Byt · A n (kat L j))) : KReads C' w (xs.set j (.slice A n c)) L := by
  have hl := h.1
  refine ⟨by simp [hl], fun i hi => ?_⟩
  by_cases e : i = j
  · subst e
    exact ⟨A, n, c, by rw [List.getElem?_set_self (by omega)], ha⟩
  · obtain ⟨A, n, c, e1, e2⟩ := h.2 i hi
    exact ⟨A, n, c, by rw [List.getElem?_set_ne (by omega), e1], e2.mono (hC i e)⟩
theorem own_at {w : World} {base : Nat} {e : TypeId} {s n c : Nat} {A : Option Addr} {xs : List Value} (h : w.ownsRow base e s (.slice A n c) n xs) (h0 : 0 < n) : ∃ g, A = some ⟨g, 0, none⟩ ∧ base ≤ g ∧ g < w.heap.size := by
  rcases h.2 with ⟨_, rfl⟩ | ⟨g, cap, cur, e, hB, hh, _⟩
  · omega
  · injection e with e1 e2 e3
    exact ⟨g, e1, hB, (Array.getElem?_eq_some_iff.1 hh).1⟩
theorem own_caps {w : World} {base : Nat} {e : TypeId} {s n c : Nat} {A : Option Addr} {xs : List Value} (h : w.ownsRow base e s (.slice A n c) n xs) : n ≤ c ∧ c ≤ maxLen ∧ (A = none → c = 0) := by
  obtain ⟨A', c', e, h1, h2, h3, h4, h5⟩ := own_new h
  injection e with e1 e2 e3
  subst e1
  subst e3
  exact ⟨h2, h3, fun e => (h4 e).2⟩
theorem kys_on {C : Nat → Prop} {w : World} {N n : Nat} {A : Option Addr} {c : Nat} {xs : List Value} {L : List (List UInt8)} (h : w.ownsRow N 60 1 (.slice A n c) n xs) (hr : KReads (fun _ => C) w xs L) (hC : ∀ a, A = some a → C a.block) : On C w (Kys · A n c L) := by
  intro w' ha
  have h' := own_agree h ha (fun k hk => by
    cases A with
    | none => cases hk
    | some a => injection hk with hk; subst hk; exact hC a rfl)
  have hc := own_caps h'
  refine ⟨by have := h.1; have := hr.1; omega, hc.1, hc.2.1, hc.2.2, fun h0 => ?_⟩
  obtain ⟨g, rfl, _, hg⟩ := own_at h' h0
  refine ⟨g, 0, rfl, hg, fun j hj => ?_⟩
  obtain ⟨A, m, d, e1, e2⟩ := hr.2 j (by have := h.1; have := hr.1; omega)
  exact ⟨A, m, d, by rw [Nat.zero_add, h'.cellAt j (by omega), e1], e2 w' ha⟩
theorem ins_on {C : Nat → Prop} {w : World} {N n : Nat} {A : Option Addr} {c : Nat} {L : List Int} (h : w.ownsRow N 3 1 (.slice A n c) n (L.map intV)) (hC : ∀ a, A = some a → C a.block) : On C w (Ins · A n c L) := by
  intro w' ha
  have h' := own_agree h ha (fun k hk => by
    cases A with
    | none => cases hk
    | some a => injection hk with hk; subst hk; exact hC a rfl)
  have hc := own_caps h'
  have hl : L.length = n := by have := h.1; simpa using this
  refine ⟨hl, hc.1, hc.2.1, hc.2.2, fun h0 => ?_⟩
  obtain ⟨g, rfl, _, hg⟩ := own_at h' h0
  refine ⟨g, 0, rfl, hg, fun j hj => ?_⟩
  rw [Nat.zero_add, h'.cellAt j (by omega), List.getElem?_map, List.getElem?_eq_getElem (by omega), iat_eq (by omega)]
  rfl

/-- Of a row's own block; which blocks the bytes of its element t may lie in when j have been made anew. -/
def Cj (A : Option Addr) (N j : Nat) (t b : Nat) : Prop := (∀ a, A = some a → a.block ≠ b) ∧ (t < j → N ≤ b)

/-- Where the loop that copies each pair has come to. -/
def PairsInv (W : World) (N : Nat) (A : Option Addr) (k cap : Nat) (L : List Pr) (j : Nat) (wr : World) : Prop :=
  ∃ xs, wr.ownsRow N 66 2 (.slice A k cap) k xs ∧ ReadsC (Cj A N j) wr xs L ∧ Below N W wr ∧ N ≤ wr.heap.size

theorem own_set {w : World} {base g : Nat} {e : TypeId} {s n cap : Nat} {xs : List Value} (h : w.ownsRow base e s (.slice (some ⟨g, 0, none⟩) n cap) n xs) (j : Nat) (u : Value) : (w.setCell ⟨g, j, none⟩ u).ownsRow base e s (.slice (some ⟨g, 0, none⟩) n cap) n (xs.set j u) := (h.stored j u).1

/-- What one round of that loop leaves. -/
theorem pairs_round {W wr w3 w4 : World} {N g k cap j n1 m1 x2 x3 : Nat} {L : List Pr} {A2 B2 : Option Addr} (h : PairsInv W N (some ⟨g, 0, none⟩) k cap L j wr) (hj : j < L.length) (hg1 : N ≤ g) (hg2 : g < wr.heap.size)
    (hb3 : Below wr.heap.size wr w3) (p2 : Byt w3 A2 n1 (gt L j).1) (n2 : New (g + 1) A2) (hb4 : Below w3.heap.size w3 w4) (p3 : Byt w4 B2 m1 (gt L j).2) (n3 : New (g + 1) B2) :
    PairsInv W N (some ⟨g, 0, none⟩) k cap L (j + 1) ((w4.setCell ⟨g, j * 2, none⟩ (.slice A2 n1 x2)).setCell ⟨g, j * 2 + 1, none⟩ (.slice B2 m1 x3)) := by
  obtain ⟨xs, hown, hr, hb, hN⟩ := h
  have hb34 : Below wr.heap.size wr w4 := hb3.trans (hb4.mono hb3.size)
  have o4 := own_agree hown (C := fun _ => True) (below_all hb34) (fun _ _ => trivial)
  have hC : ∀ t b, Cj (some ⟨g, 0, none⟩) N j t b → b ≠ g := fun t b h e => h.1 _ rfl e.symm
  have r4 := hr.keep (fun t => below_all (C := Cj (some ⟨g, 0, none⟩) N j t) hb34)
  have r5 := (r4.keep (fun t => agree_set w4 ⟨g, j * 2, none⟩ (.slice A2 n1 x2) (fun h => hC t _ h rfl))).keep (fun t => agree_set _ ⟨g, j * 2 + 1, none⟩ (.slice B2 m1 x3) (fun h => hC t _ h rfl))
  have hnew : ∀ i, g + 1 ≤ i → Cj (some ⟨g, 0, none⟩) N (j + 1) j i := fun i hi => ⟨fun a e => by injection e with e; subst e; show g ≠ i; omega, fun _ => by omega⟩
  have q2 := (((byt_new p2 n2).keep (below_all hb4)).keep (agree_set w4 ⟨g, j * 2, none⟩ (.slice A2 n1 x2) (by show ¬ (g + 1 ≤ g); omega))).keep (agree_set _ ⟨g, j * 2 + 1, none⟩ (.slice B2 m1 x3) (by show ¬ (g + 1 ≤ g); omega))
  have q3 := ((byt_new p3 n3).keep (agree_set w4 ⟨g, j * 2, none⟩ (.slice A2 n1 x2) (by show ¬ (g + 1 ≤ g); omega))).keep (agree_set _ ⟨g, j * 2 + 1, none⟩ (.slice B2 m1 x3) (by show ¬ (g + 1 ≤ g); omega))
  refine ⟨_, own_set (own_set o4 (j * 2) (.slice A2 n1 x2)) (j * 2 + 1) (.slice B2 m1 x3), r5.put hj (fun t ht b hb => ⟨hb.1, fun hl => hb.2 (by omega)⟩) x2 x3 (q2.mono hnew) (q3.mono hnew), ?_, ?_⟩
  · exact ((hb.trans (hb34.mono hN)).setCell hg1 _).setCell hg1 _
  · have := hb34.size
    simp [World.setCell]
    omega

/-- Where the loop that copies each key has come to. -/
def KeysInv (W : World) (N : Nat) (A : Option Addr) (k cap : Nat) (L : List (List UInt8)) (j : Nat) (wr : World) : Prop :=
  ∃ xs, wr.ownsRow N 60 1 (.slice A k cap) k xs ∧ KReads (Cj A N j) wr xs L ∧ Below N W wr ∧ N ≤ wr.heap.size

theorem keys_round {W wr w3 : World} {N g k cap j n1 x2 : Nat} {L : List (List UInt8)} {A2 : Option Addr} (h : KeysInv W N (some ⟨g, 0, none⟩) k cap L j wr) (hj : j < L.length) (hg1 : N ≤ g) (hg2 : g < wr.heap.size)
    (hb3 : Below wr.heap.size wr w3) (p2 : Byt w3 A2 n1 (kat L j)) (n2 : New (g + 1) A2) :
    KeysInv W N (some ⟨g, 0, none⟩) k cap L (j + 1) (w3.setCell ⟨g, j, none⟩ (.slice A2 n1 x2)) := by
  obtain ⟨xs, hown, hr, hb, hN⟩ := h
  have o4 := own_agree hown (C := fun _ => True) (below_all hb3) (fun _ _ => trivial)
  have hC : ∀ t b, Cj (some ⟨g, 0, none⟩) N j t b → b ≠ g := fun t b h e => h.1 _ rfl e.symm
  have r4 := hr.keep (fun t => below_all (C := Cj (some ⟨g, 0, none⟩) N j t) hb3)
  have r5 := (r4.keep (fun t => agree_set w3 ⟨g, j, none⟩ (.slice A2 n1 x2) (fun h => hC t _ h rfl)))
  have hnew : ∀ i, g + 1 ≤ i → Cj (some ⟨g, 0, none⟩) N (j + 1) j i := fun i hi => ⟨fun a e => by injection e with e; subst e; show g ≠ i; omega, fun _ => by omega⟩
  have q2 := (byt_new p2 n2).keep (agree_set w3 ⟨g, j, none⟩ (.slice A2 n1 x2) (by show ¬ (g + 1 ≤ g); omega))
  refine ⟨_, own_set o4 j (.slice A2 n1 x2), r5.put hj (fun t ht b hb => ⟨hb.1, fun hl => hb.2 (by omega)⟩) x2 (q2.mono hnew), ?_, ?_⟩
  · exact (hb.trans (hb3.mono hN)).setCell hg1 _
  · have := hb3.size
    simp [World.setCell]
    omega
end Go.Proofs.Ytbphjhmmdkaggaa
