/- What lies in which blocks: bytes, pairs; rows of pairs as new memory; contracts of package key's Sound and In and of the document's own Sound, In, Delete, Put. Condition: what came in can be read; rows of no more than 1000 pairs; keys and values of at most 1000 bytes. -/
import Derived.Test.YthcchaglloggjaaG1
import Derived.Maps.AppendAt
import Derived.Deep.RegionHeld3
import Derived.Deep.Onto
namespace Go.Proofs.Ythcchaglloggjaa
open Go.RowKit
set_option linter.unusedVariables false
set_option maxRecDepth 100000

abbrev Ky := List UInt8

/-- Of the blocks that C names nothing has turned. -/
def Agree (C : Nat → Prop) (w w' : World) : Prop := w.heap.size ≤ w'.heap.size ∧ ∀ b, C b → b < w.heap.size → w'.heap[b]? = w.heap[b]?

theorem Agree.refl (C : Nat → Prop) (w : World) : Agree C w w := ⟨Nat.le_refl _, fun _ _ _ => rfl⟩

theorem Agree.trans {C : Nat → Prop} {a b c : World} (h : Agree C a b) (k : Agree C b c) : Agree C a c :=
  ⟨Nat.le_trans h.1 k.1, fun i hi hl => (k.2 i hi (Nat.lt_of_lt_of_le hl h.1)).trans (h.2 i hi hl)⟩

theorem Agree.mono {C C' : Nat → Prop} {a b : World} (h : Agree C a b) (hC : ∀ i, C' i → C i) : Agree C' a b := ⟨h.1, fun i hi hl => h.2 i (hC i hi) hl⟩

theorem below_agree {C : Nat → Prop} {B : Nat} {w w' : World} (h : Below B w w') (hC : ∀ b, C b → b < w.heap.size → b < B) : Agree C w w' := ⟨h.size, fun b hb hl => h.block b (hC b hb hl)⟩

theorem below_all {C : Nat → Prop} {w w' : World} (h : Below w.heap.size w w') : Agree C w w' := below_agree h fun _ _ hl => hl

theorem agree_set {C : Nat → Prop} (w : World) (a : Addr) (u : Value) (h : ¬ C a.block) : Agree C w (w.setCell a u) :=
  ⟨by simp [World.setCell], fun b hb _ => Below.heap_setCell _ _ _ _ (fun e => h (e ▸ hb))⟩

theorem agree_alloc {C : Nat → Prop} (w : World) (o : Obj) : Agree C w (w.alloc o) := ⟨by simp, fun b _ hl => Below.heap_alloc _ _ _ hl⟩

theorem agree_grown {C : Nat → Prop} {w w' : World} {row : Option Nat} (h : w.grownBy w' row) (hr : ∀ k, row = some k → ¬ C k) : Agree C w w' :=
  ⟨h.size, fun b hb hl => h.block b hl (fun e => hr b e.symm hb)⟩

/-- What holds whatever happens outside the blocks that C names. -/
def On (C : Nat → Prop) (w : World) (P : World → Prop) : Prop := ∀ w', Agree C w w' → P w'

theorem On.here {C : Nat → Prop} {w : World} {P : World → Prop} (h : On C w P) : P w := h w (Agree.refl _ _)

theorem On.keep {C : Nat → Prop} {w w' : World} {P : World → Prop} (h : On C w P) (ha : Agree C w w') : On C w' P := fun v hv => h v (ha.trans hv)

theorem On.mono {C C' : Nat → Prop} {w : World} {P : World → Prop} (h : On C w P) (hC : ∀ i, C i → C' i) : On C' w P := fun v hv => h v (hv.mono hC)

theorem On.now {C : Nat → Prop} {w : World} {P : World → Prop} (h : On C w P) : On (fun b => C b ∧ b < w.heap.size) w P := fun v hv => h v ⟨hv.1, fun b hb hl => hv.2 b ⟨hb, hl⟩ hl⟩

theorem On.imp {C : Nat → Prop} {w : World} {P Q : World → Prop} (h : On C w P) (hPQ : ∀ w, P w → Q w) : On C w Q := fun v hv => hPQ v (h v hv)

theorem byt_on {C : Nat → Prop} {w : World} {A : Option Addr} {n : Nat} {l : List UInt8} (h : Byt w A n l) (hC : ∀ a, 0 < n → A = some a → C a.block) : On C w (Byt · A n l) := fun w' ⟨hs, hb⟩ =>
  ⟨h.1, fun h0 => by
    obtain ⟨a, e, hl, hj⟩ := h.2 h0
    refine ⟨a, e, by omega, fun j hj' => ?_⟩
    rw [← hj j hj']
    exact World.cell?_of_block (w := w) (a := a.add j) (by rw [add_block]; exact hb a.block (hC a h0 e) hl)⟩

theorem byt_old {w : World} {A : Option Addr} {n : Nat} {l : List UInt8} (h : Byt w A n l) : On (· < w.heap.size) w (Byt · A n l) :=
  byt_on h fun a h0 e => by
    obtain ⟨a', e', hl, _⟩ := h.2 h0
    rw [e] at e'
    injection e' with e'
    subst e'
    exact hl

theorem byt_new {w : World} {N : Nat} {A : Option Addr} {n : Nat} {l : List UInt8} (h : Byt w A n l) (hN : New N A) : On (N ≤ ·) w (Byt · A n l) := byt_on h fun a _ e => hN a e

theorem own_agree {C : Nat → Prop} {w w' : World} {base n : Nat} {e : TypeId} {s : Nat} {v : Value} {xs : List Value} (h : w.ownsRow base e s v n xs) (ha : Agree C w w') (hC : ∀ k, v.ownBlock = some k → C k) : w'.ownsRow base e s v n xs := by
  have hlt := h.lt
  obtain ⟨h1, h2⟩ := h
  refine ⟨h1, ?_⟩
  rcases h2 with h2 | ⟨g, cap, cur, rfl, hb, hg, r⟩
  · exact .inl h2
  · exact .inr ⟨g, cap, cur, rfl, hb, by rw [ha.2 g (hC g rfl) (hlt g rfl).2]; exact hg, r⟩

theorem own_new {w' : World} {N : Nat} {E : TypeId} {s n : Nat} {v : Value} {xs : List Value} (h : w'.ownsRow N E s v n xs) : ∃ A c, v = .slice A n c ∧ New N A ∧ n ≤ c ∧ c ≤ maxLen ∧ (A = none → n = 0 ∧ c = 0) ∧ (∀ a, A = some a → a.off = 0 ∧ a = ⟨a.block, 0, none⟩) := by
  rcases h.2 with ⟨rfl, rfl⟩ | ⟨g, cap, cur, rfl, hB, hh, h1, h2, _⟩
  · exact ⟨none, 0, rfl, (fun a e => by cases e), Nat.le_refl _, Nat.zero_le _, fun _ => ⟨rfl, rfl⟩, fun a e => by cases e⟩
  · exact ⟨_, _, rfl, (fun a e => by injection e with e; subst e; exact hB), h1, h2, (fun e => by cases e), fun a e => by injection e with e; subst e; exact ⟨rfl, rfl⟩⟩

/-- Cells that read as pairs, the bytes of pair t in blocks that C t names. -/
def ReadsC (C : Nat → Nat → Prop) (w : World) (xs : List Value) (L : List Pr) : Prop :=
  xs.length = L.length * 2 ∧ ∀ j, j < L.length → ∃ A n c B m d, xs[j * 2]? = some (.slice A n c) ∧ xs[j * 2 + 1]? = some (.slice B m d) ∧ On (C j) w (Byt · A n (gt L j).1) ∧ On (C j) w (Byt · B m (gt L j).2)

theorem ReadsC.keep {C : Nat → Nat → Prop} {w w' : World} {xs : List Value} {L : List Pr} (h : ReadsC C w xs L) (ha : ∀ t, Agree (C t) w w') : ReadsC C w' xs L :=
  ⟨h.1, fun j hj => by
    obtain ⟨A, n, c, B, m, d, e1, e2, e3, e4⟩ := h.2 j hj
    exact ⟨A, n, c, B, m, d, e1, e2, e3.keep (ha j), e4.keep (ha j)⟩⟩

theorem ReadsC.mono {C C' : Nat → Nat → Prop} {w : World} {xs : List Value} {L : List Pr} (h : ReadsC C w xs L) (hC : ∀ t, t < L.length → ∀ b, C t b → C' t b) : ReadsC C' w xs L :=
  ⟨h.1, fun j hj => by
    obtain ⟨A, n, c, B, m, d, e1, e2, e3, e4⟩ := h.2 j hj
    exact ⟨A, n, c, B, m, d, e1, e2, e3.mono (hC j hj), e4.mono (hC j hj)⟩⟩

theorem ReadsC.put {C C' : Nat → Nat → Prop} {w : World} {xs : List Value} {L : List Pr} (h : ReadsC C w xs L) {j : Nat} (hj : j < L.length) (hC : ∀ t, t ≠ j → ∀ b, C t b → C' t b) {A B : Option Addr} {n m : Nat} (c d : Nat)
    (ha : On (C' j) w (Byt · A n (gt L j).1)) (hb : On (C' j) w (Byt · B m (gt L j).2)) : ReadsC C' w ((xs.set (j * 2) (.slice A n c)).set (j * 2 + 1) (.slice B m d)) L := by
  have hl := h.1
  refine ⟨by simp [hl], fun i hi => ?_⟩
  by_cases e : i = j
  · subst e
    refine ⟨A, n, c, B, m, d, ?_, ?_, ha, hb⟩
    · rw [List.getElem?_set_ne (by omega), List.getElem?_set_self (by omega)]
    · rw [List.getElem?_set_self (by simp; omega)]
  · obtain ⟨A, n, c, B, m, d, e1, e2, e3, e4⟩ := h.2 i hi
    refine ⟨A, n, c, B, m, d, ?_, ?_, e3.mono (hC i e), e4.mono (hC i e)⟩
    · rw [List.getElem?_set_ne (by omega), List.getElem?_set_ne (by omega), e1]
    · rw [List.getElem?_set_ne (by omega), List.getElem?_set_ne (by omega), e2]

theorem prs_on {C : Nat → Prop} {w : World} {N n : Nat} {A : Option Addr} {c : Nat} {xs : List Value} {L : List Pr} (h : w.ownsRow N 91 2 (.slice A n c) n xs) (hr : ReadsC (fun _ => C) w xs L) (hC : ∀ a, A = some a → C a.block) : On C w (Prs · A n c L) := by
  intro w' ha
  have h' := own_agree h ha (fun k hk => by
    cases A with
    | none => cases hk
    | some a => injection hk with hk; subst hk; exact hC a rfl)
  obtain ⟨A', c', e, hp, _⟩ := own_prs h' (L := L) ⟨hr.1, fun j hj => by
    obtain ⟨A, n, c, B, m, d, e1, e2, e3, e4⟩ := hr.2 j hj
    exact ⟨A, n, c, B, m, d, e1, e2, e3 w' ha, e4 w' ha⟩⟩
  injection e with e1 e2 e3
  subst e1
  subst e3
  exact hp

theorem own_at {w : World} {base : Nat} {e : TypeId} {s n c : Nat} {A : Option Addr} {xs : List Value} (h : w.ownsRow base e s (.slice A n c) n xs) (h0 : 0 < n) : ∃ g, A = some ⟨g, 0, none⟩ ∧ base ≤ g ∧ g < w.heap.size := by
  rcases h.2 with ⟨_, rfl⟩ | ⟨g, cap, cur, e, hB, hh, _⟩
  · omega
  · injection e with e1 e2 e3
    exact ⟨g, e1, hB, (Array.getElem?_eq_some_iff.1 hh).1⟩

theorem own_caps {w : World} {base : Nat} {e : TypeId} {s n c : Nat} {A : Option Addr} {xs : List Value} (h : w.ownsRow base e s (.slice A n c) n xs) : n ≤ c ∧ c ≤ maxLen ∧ (A = none → c = 0) := by
  obtain ⟨A', c', e, h1, h2, h3, h4, h5⟩ := own_new h
  injection e with e1 e2 e3
  subst e1
  subst e3
  exact ⟨h2, h3, fun e => (h4 e).2⟩

/-- Of a row's own block; which blocks the bytes of its element t may lie in when j have been made anew. -/
def Cj (A : Option Addr) (N j : Nat) (t b : Nat) : Prop := (∀ a, A = some a → a.block ≠ b) ∧ (t < j → N ≤ b)

/-- Where the loop that copies each pair has come to. -/
def PairsInv (W : World) (N : Nat) (A : Option Addr) (k cap : Nat) (L : List Pr) (j : Nat) (wr : World) : Prop :=
  ∃ xs, wr.ownsRow N 91 2 (.slice A k cap) k xs ∧ ReadsC (Cj A N j) wr xs L ∧ Below N W wr ∧ N ≤ wr.heap.size

theorem own_set {w : World} {base g : Nat} {e : TypeId} {s n cap : Nat} {xs : List Value} (h : w.ownsRow base e s (.slice (some ⟨g, 0, none⟩) n cap) n xs) (j : Nat) (u : Value) : (w.setCell ⟨g, j, none⟩ u).ownsRow base e s (.slice (some ⟨g, 0, none⟩) n cap) n (xs.set j u) := (h.stored j u).1

/-- What one round of that loop leaves. -/
theorem pairs_round {W wr w3 w4 : World} {N g k cap j n1 m1 x2 x3 : Nat} {L : List Pr} {A2 B2 : Option Addr} (h : PairsInv W N (some ⟨g, 0, none⟩) k cap L j wr) (hj : j < L.length) (hg1 : N ≤ g) (hg2 : g < wr.heap.size)
    (hb3 : Below wr.heap.size wr w3) (p2 : Byt w3 A2 n1 (gt L j).1) (n2 : New (g + 1) A2) (hb4 : Below w3.heap.size w3 w4) (p3 : Byt w4 B2 m1 (gt L j).2) (n3 : New (g + 1) B2) :
    PairsInv W N (some ⟨g, 0, none⟩) k cap L (j + 1) ((w4.setCell ⟨g, j * 2, none⟩ (.slice A2 n1 x2)).setCell ⟨g, j * 2 + 1, none⟩ (.slice B2 m1 x3)) := by
  obtain ⟨xs, hown, hr, hb, hN⟩ := h
  have hb34 : Below wr.heap.size wr w4 := hb3.trans (hb4.mono hb3.size)
  have o4 := own_agree hown (C := fun _ => True) (below_all hb34) (fun _ _ => trivial)
  have hC : ∀ t b, Cj (some ⟨g, 0, none⟩) N j t b → b ≠ g := fun t b h e => h.1 _ rfl e.symm
  have r4 := hr.keep (fun t => below_all (C := Cj (some ⟨g, 0, none⟩) N j t) hb34)
  have r5 := (r4.keep (fun t => agree_set w4 ⟨g, j * 2, none⟩ (.slice A2 n1 x2) (fun h => hC t _ h rfl))).keep (fun t => agree_set _ ⟨g, j * 2 + 1, none⟩ (.slice B2 m1 x3) (fun h => hC t _ h rfl))
  have hnew : ∀ i, g + 1 ≤ i → Cj (some ⟨g, 0, none⟩) N (j + 1) j i := fun i hi => ⟨fun a e => by injection e with e; subst e; show g ≠ i; omega, fun _ => by omega⟩
  have q2 := (((byt_new p2 n2).keep (below_all hb4)).keep (agree_set w4 ⟨g, j * 2, none⟩ (.slice A2 n1 x2) (by show ¬ (g + 1 ≤ g); omega))).keep (agree_set _ ⟨g, j * 2 + 1, none⟩ (.slice B2 m1 x3) (by show ¬ (g + 1 ≤ g); omega))
  have q3 := ((byt_new p3 n3).keep (agree_set w4 ⟨g, j * 2, none⟩ (.slice A2 n1 x2) (by show ¬ (g + 1 ≤ g); omega))).keep (agree_set _ ⟨g, j * 2 + 1, none⟩ (.slice B2 m1 x3) (by show ¬ (g + 1 ≤ g); omega))
  refine ⟨_, own_set (own_set o4 (j * 2) (.slice A2 n1 x2)) (j * 2 + 1) (.slice B2 m1 x3), r5.put hj (fun t ht b hb => ⟨hb.1, fun hl => hb.2 (by omega)⟩) x2 x3 (q2.mono hnew) (q3.mono hnew), ?_, ?_⟩
  · exact ((hb.trans (hb34.mono hN)).setCell hg1 _).setCell hg1 _
  · have := hb34.size
    simp [World.setCell]
    omega

/-- What is read in a cell lies in the footprint. -/
theorem block_in {C : Nat → Prop} {w : World} {b o : Nat} (h : On C w (fun w' => ∃ A n c, w'.cell? ⟨b, o, none⟩ = some (.slice A n c))) : C b := by
  apply Classical.byContradiction
  intro hb
  obtain ⟨A, n, c, e⟩ := h.here
  obtain ⟨A', n', c', e'⟩ := h (w.setCell ⟨b, o, none⟩ (.bool false)) (agree_set w _ _ hb)
  have : (w.setCell ⟨b, o, none⟩ (.bool false)).cell? ⟨b, o, none⟩ = some (.bool false) := by
    unfold World.cell? at e ⊢
    simp only [World.setCell] at *
    cases hh : w.heap[b]? with
    | none => rw [hh] at e; cases e
    | some ob =>
      rw [hh] at e
      simp [Array.getElem?_modify, hh] at e ⊢
      cases ob <;> simp_all
      have := (Array.getElem?_eq_some_iff.1 e).1
      simp [this]
  rw [this] at e'
  cases e'

theorem prs_pair_on {C : Nat → Prop} {w : World} {A : Option Addr} {n c : Nat} {L : List Pr} (h : On C w (Prs · A n c L)) {j : Nat} (hj : j < n) :
    ∃ b o A1 n1 c1 B1 m1 d1, A = some ⟨b, o, none⟩ ∧ w.cell? ⟨b, o + j * 2, none⟩ = some (.slice A1 n1 c1) ∧ w.cell? ⟨b, o + j * 2 + 1, none⟩ = some (.slice B1 m1 d1) ∧ On C w (Byt · A1 n1 (gt L j).1) ∧ On C w (Byt · B1 m1 (gt L j).2) := by
  obtain ⟨b, o, e, hb, A1, n1, c1, B1, m1, d1, k0, k1, y1, y2⟩ := h.here.at_ hj
  have hC : C b := block_in (C := C) (w := w) (b := b) (o := o + j * 2) fun w' ha => by
    obtain ⟨b', o', e', hb', A2, n2, c2, B2, m2, d2, q0, q1, z1, z2⟩ := (h w' ha).at_ hj
    rw [e] at e'
    injection e' with e'
    injection e' with e1 e2
    subst e1
    subst e2
    exact ⟨A2, n2, c2, q0⟩
  have key : ∀ w', Agree C w w' → Byt w' A1 n1 (gt L j).1 ∧ Byt w' B1 m1 (gt L j).2 := fun w' ha => by
    obtain ⟨b', o', e', hb', A2, n2, c2, B2, m2, d2, q0, q1, z1, z2⟩ := (h w' ha).at_ hj
    rw [e] at e'
    injection e' with e'
    injection e' with e1 e2
    subst e1
    subst e2
    rw [World.cell?_of_block (w := w) (a := ⟨b, o + j * 2, none⟩) (ha.2 b hC hb), k0] at q0
    rw [World.cell?_of_block (w := w) (a := ⟨b, o + j * 2 + 1, none⟩) (ha.2 b hC hb), k1] at q1
    injection q0 with q0
    injection q0 with q2 q3 q4
    injection q1 with q1
    injection q1 with q5 q6 q7
    rw [q2, q3, q5, q6]
    exact ⟨z1, z2⟩
  exact ⟨b, o, A1, n1, c1, B1, m1, d1, e, k0, k1, fun w' ha => (key w' ha).1, fun w' ha => (key w' ha).2⟩

theorem prs_reads_on {C : Nat → Prop} {w : World} {A : Option Addr} {n c : Nat} {L : List Pr} (h : On C w (Prs · A n c L)) :
    ∃ ys, ReadsC (fun _ => C) w ys L ∧ Reads w ys L ∧ ys.length = n * 2 ∧ ∀ a, A = some a → ∀ j u, ys[j]? = some u → w.cell? (a.add j) = some u := by
  obtain ⟨ys, h1, h2, h3⟩ := h.here.cells
  refine ⟨ys, ⟨h1.1, fun j hj => ?_⟩, h1, h2, h3⟩
  have hjn : j < n := by have := h.here.1; omega
  obtain ⟨b, o, A1, n1, c1, B1, m1, d1, e, k0, k1, y1, y2⟩ := prs_pair_on h hjn
  have g0 := h3 _ e (j * 2) _ (List.getElem?_eq_getElem (by omega))
  have g1 := h3 _ e (j * 2 + 1) _ (List.getElem?_eq_getElem (by omega))
  rw [add_lit] at g0 g1
  rw [k0] at g0
  rw [← Nat.add_assoc, k1] at g1
  injection g0 with g0
  injection g1 with g1
  exact ⟨A1, n1, c1, B1, m1, d1, by rw [List.getElem?_eq_getElem (by omega), g0], by rw [List.getElem?_eq_getElem (by omega), g1], y1, y2⟩

/-- append of pairs to a row of one's own; where it lies then. -/
theorem wpList_append_prs_at {w w0 : World} {ops : Array Oper} {rest : List Oper} {o : Oper} {a : Act} {Q : Exit → Act → World → Prop} (hgd : o.guard = none) (s x : Operand)
    (ho : o.op = .call { callee := .builtin .append, args := #[s, x], argTypes := #[43, 43] })
    (base : Nat) (v : Value) (n : Nat) (xs : List Value) (hs : a.eval s = v) (hown : w.ownsRow base 91 2 v n xs)
    (A : Option Addr) (m c : Nat) (L : List Pr) {C : Nat → Prop} (hx : a.eval x = .slice A m c) (hp : On C w0 (Prs · A m c L)) (hb : Below w0.heap.size w0 w) (h63 : n + m ≤ 9000) (hbase : base ≤ w.heap.size)
    (h : ∀ v' w' ys, ReadsC (fun _ => C) w0 ys L → w'.ownsRow base 91 2 v' (n + m) (xs ++ ys) → w.grownBy w' v.ownBlock → (v'.ownBlock = v.ownBlock ∨ v'.ownBlock = some w.heap.size) → wpList Try.prog ops Q rest (a.put o.dst v') w') :
    wpList Try.prog ops Q (o :: rest) a w := by
  obtain ⟨i0, hi, hz0, hz1, hz2⟩ := info_parts Try.infoPair
  obtain ⟨ys, hrc, hr, hl, hc⟩ := prs_reads_on hp
  cases A with
  | none =>
    have hph := hp.here
    obtain rfl : c = 0 := hph.2.2.2.1 rfl
    obtain rfl : m = 0 := Nat.le_zero.1 hph.2.1
    obtain rfl : ys = [] := List.eq_nil_of_length_eq_zero (by omega)
    refine wpList_append_own_none (w := w) hgd s x _ ho base 91 i0 2 Try.underlying43 hi v n xs hs hown hx ?_
    exact h v w [] hrc (by simpa using hown) (World.grownBy.refl _ _) (.inl rfl)
  | some ad =>
    refine wpList_append_own_at w hgd s x _ ho base 91 i0 (.agg #[.slice none 0 0, .slice none 0 0]) 2 48 Try.underlying43 hi hz0 hz1 hz2 rfl (by decide) v n xs hs hown ad m c ys hx hl (fun j u hu => ?_) hr.one (by unfold maxLen; omega) (by omega) hbase ?_
    · have hcell := hc ad rfl j u hu
      have hlt := World.block_lt_of_cell? w0 _ hcell
      exact (hb.cell hlt).trans hcell
    intro v' w' h1 h2 _ h3
    exact h v' w' ys hrc h1 h2 h3

theorem ReadsC.append {C : Nat → Prop} {w : World} {xs ys : List Value} {L M : List Pr} (h : ReadsC (fun _ => C) w xs L) (h' : ReadsC (fun _ => C) w ys M) : ReadsC (fun _ => C) w (xs ++ ys) (L ++ M) := by
  obtain ⟨h1, h2⟩ := h
  obtain ⟨h3, h4⟩ := h'
  refine ⟨by simp; omega, fun j hj => ?_⟩
  by_cases hl : j < L.length
  · obtain ⟨A, n, c, B, m, d, e1, e2, e3, e4⟩ := h2 j hl
    rw [List.getElem?_append_left (by omega), List.getElem?_append_left (by omega), gt_left hl]
    exact ⟨A, n, c, B, m, d, e1, e2, e3, e4⟩
  · obtain ⟨A, n, c, B, m, d, e1, e2, e3, e4⟩ := h4 (j - L.length) (by simp at hj; omega)
    rw [List.getElem?_append_right (by omega), List.getElem?_append_right (by omega), gt_right (by omega), show j * 2 - xs.length = (j - L.length) * 2 by omega, show j * 2 + 1 - xs.length = (j - L.length) * 2 + 1 by omega]
    exact ⟨A, n, c, B, m, d, e1, e2, e3, e4⟩

theorem ReadsC.now {C : Nat → Nat → Prop} {w : World} {xs : List Value} {L : List Pr} (h : ReadsC C w xs L) : ReadsC (fun t b => C t b ∧ b < w.heap.size) w xs L :=
  ⟨h.1, fun j hj => by
    obtain ⟨A, n, c, B, m, d, e1, e2, e3, e4⟩ := h.2 j hj
    exact ⟨A, n, c, B, m, d, e1, e2, e3.now, e4.now⟩⟩

theorem own_lt {w : World} {N : Nat} {e s n : Nat} {v : Value} {xs : List Value} (h : w.ownsRow N e s v n xs) : ∀ k, v.ownBlock = some k → k < w.heap.size := fun k hk => (h.lt k hk).2

def MadeN (w : World) (L : List Pr) (e : Ending) (w' : World) : Prop := ∃ A n c, e = .returned (.slice A n c) ∧ On (w.heap.size ≤ ·) w' (Prs · A n c L) ∧ Below w.heap.size w w'

def PuttedN (w : World) (L : List Pr) (b : Bool) (e : Ending) (w' : World) : Prop := ∃ A n c, e = .returned (.tuple #[.slice A n c, .bool b, .nilIface]) ∧ On (w.heap.size ≤ ·) w' (Prs · A n c L) ∧ Below w.heap.size w w'

def belowB (x k : List UInt8) : Bool := decide (k.length = 0) || ltB x k

def soundB (l k : List UInt8) : Bool := decide (l.length ≤ 16) && (decide (k.length ≤ 16) && belowB l k)

def inB (l k x : List UInt8) : Bool := !ltB x l && belowB x k

set_option maxHeartbeats 400000 in
theorem rsound_any {w : World} {A B : Option Addr} {n m : Nat} (c d : Nat) {l k : List UInt8} (h : Byt w A n l) (h' : Byt w B m k) (hn : n ≤ maxLen) (hm : m ≤ maxLen) :
    Calls Try.prog 40 #[.agg #[.slice A n c, .slice B m d]] w fun e w' => e = .returned (.bool (soundB l k)) ∧ Below w.heap.size w w' := by
  have H := Lib.hid (fun o => less_any c d (h.alloc o) (h'.alloc o) hn hm)
  unfold maxLen at hn hm
  have hr : soundB l k = (decide (n ≤ 16) && (decide (m ≤ 16) && (decide (m = 0) || ltB l k))) := by rw [← h.1, ← h'.1]; rfl
  have HR := Lib.hid hr
  clear hr h h'
  have h0 : m = 0 ∨ (((m : Int) == 0) = false ∧ 0 < m) := by
    by_cases h : m = 0
    · exact .inl h
    · exact .inr ⟨by simp; omega, by omega⟩
  by_cases h1 : n ≤ 16 <;> by_cases h2 : m ≤ 16 <;> rcases h0 with rfl | ⟨h0, h00⟩
  all_goals first | (exfalso; omega) | skip
  all_goals
    go_enter Try.func40, Try.ntmps40
    go_wp2_with (go_at_call 54; refine (H.out _).mono ?_; rintro e w' ⟨rfl, dd, rfl⟩)
    go_ret
    refine ⟨ret_bool ?_, ((Below.refl _ _).alloc (Nat.le_refl _) _).trans (Drawn.below ⟨dd, rfl⟩ _)⟩
    rw [HR.out]
    first | (simp [h1, h2]; done) | (simp [h1, h2]; omega)

set_option maxHeartbeats 400000 in
theorem below_any {w : World} {A B : Option Addr} {n m : Nat} (c d : Nat) {x k : List UInt8} (h : Byt w A n x) (h' : Byt w B m k) :
    Calls Try.prog 75 #[.slice A n c, .slice B m d] w fun e w' => e = .returned (.bool (belowB x k)) ∧ w = w' := by
  have H := Lib.hid (compare_any c d h h')
  have hr : belowB x k = (decide (m = 0) || ltB x k) := by rw [← h'.1]; rfl
  have HR := Lib.hid hr
  clear hr h h'
  by_cases h0 : m = 0
  · subst h0
    go_enter Try.func75, Try.ntmps75
    go_wp2
    go_ret
    exact ⟨ret_bool (by rw [HR.out]; simp), rfl⟩
  · have hb : ((m : Int) == 0) = false := by simp; omega
    have H0 := Lib.hid h0
    clear h0
    go_enter Try.func75, Try.ntmps75
    go_wp2_with (go_at_call 53; refine H.out.mono ?_; rintro e w' ⟨rfl, rfl⟩)
    go_ret
    exact ⟨ret_bool (by rw [HR.out, cmp_lt]; simp [H0.out]), rfl⟩

set_option maxHeartbeats 400000 in
theorem ksound_any {w : World} {A B : Option Addr} {n m : Nat} (c d : Nat) {l k : List UInt8} (h : Byt w A n l) (h' : Byt w B m k) (hn : n ≤ maxLen) (hm : m ≤ maxLen) :
    Calls Try.prog 60 #[.agg #[.slice A n c, .slice B m d]] w fun e w' => e = .returned (.bool (soundB l k)) ∧ Below w.heap.size w w' := by
  unfold maxLen at hn hm
  have H := Lib.hid (fun o => below_any c d (h.alloc o) (h'.alloc o))
  have hr : soundB l k = (decide (n ≤ 16) && (decide (m ≤ 16) && belowB l k)) := by rw [← h.1, ← h'.1]; rfl
  have HR := Lib.hid hr
  clear hr h h'
  by_cases h1 : 16 < n
  · go_enter Try.func60, Try.ntmps60
    go_wp2
    go_ret
    exact ⟨ret_bool (by rw [HR.out]; simp; omega), (Below.refl _ _).alloc (Nat.le_refl _) _⟩
  · by_cases h2 : 16 < m
    · go_enter Try.func60, Try.ntmps60
      go_wp2
      go_ret
      exact ⟨ret_bool (by rw [HR.out]; simp; omega), (Below.refl _ _).alloc (Nat.le_refl _) _⟩
    · have h3 : n ≤ 16 := by omega
      have h4 : m ≤ 16 := by omega
      clear h1 h2
      go_enter Try.func60, Try.ntmps60
      go_wp2_with (go_at_call 75; refine (H.out _).mono ?_; rintro e w' ⟨rfl, rfl⟩)
      go_ret
      exact ⟨ret_bool (by rw [HR.out]; simp [h3, h4]), (Below.refl _ _).alloc (Nat.le_refl _) _⟩

def MadeO (w : World) (E : Nat → Prop) (L : List Pr) (e : Ending) (w' : World) : Prop := ∃ A n c, e = .returned (.slice A n c) ∧ On (fun b => E b ∨ w.heap.size ≤ b) w' (Prs · A n c L) ∧ Below w.heap.size w w'

theorem readsC_nil {C : Nat → Nat → Prop} (w : World) : ReadsC C w [] [] := ⟨rfl, fun j hj => by cases hj⟩

theorem readsC_one {C : Nat → Prop} {w : World} {A B : Option Addr} {n m : Nat} (c d : Nat) {p : Pr} (h : On C w (Byt · A n p.1)) (h' : On C w (Byt · B m p.2)) : ReadsC (fun _ => C) w [.slice A n c, .slice B m d] [p] := by
  refine ⟨rfl, fun j hj => ?_⟩
  obtain rfl : j = 0 := by simp at hj; omega
  exact ⟨A, n, c, B, m, d, rfl, rfl, h, h'⟩

def DelInvO (w : World) (E : Nat → Prop) (L : List Pr) (k : List UInt8) (j : Nat) (v : Value) (wr : World) : Prop :=
  ∃ m xs, m ≤ j ∧ wr.ownsRow w.heap.size 91 2 v m xs ∧ ReadsC (fun _ => E) w xs (delL (L.take j) k) ∧ Below w.heap.size w wr

theorem few_small {L : List Pr} {m : Nat} (h : fewB L m = true) : Small L ∧ L.length ≤ m := by
  unfold fewB at h
  simp only [Bool.and_eq_true, decide_eq_true_eq] at h
  refine ⟨fun p hp => ?_, h.2⟩
  have := List.all_eq_true.1 h.1 p hp
  unfold shortB at this
  simp only [Bool.and_eq_true, decide_eq_true_eq] at this
  omega

theorem Drawn.bel {w w' : World} (h : Drawn w w') (B : Nat) : Below B w w' := h.below B

theorem below_on {a w w' : World} (h : Below a.heap.size a w) (hb : Below w.heap.size w w') : Below a.heap.size a w' := h.trans (hb.mono h.size)

theorem prs_old {w : World} {A : Option Addr} {n c : Nat} {L : List Pr} (h : Prs w A n c L) : On (· < w.heap.size) w (Prs · A n c L) := fun w' ha => h.keep ha.1 (fun q hq => World.cell?_of_block (ha.2 q.block hq hq))

/-- The pairs whose keys are in a range, and those whose keys are not. -/
def cutL (P : List Pr) (l h : Ky) : List Pr := P.filter fun p => inB l h p.1

theorem filter3 {f : Pr → Bool} {X M Y : List Pr} (h1 : ∀ p ∈ X, f p = false) (h2 : ∀ p ∈ M, f p = true) (h3 : ∀ p ∈ Y, f p = false) : (X ++ (M ++ Y)).filter f = M := by
  rw [List.filter_append, List.filter_append, List.filter_eq_nil_iff.2 (fun p hp => by rw [h1 p hp]; decide), List.filter_eq_self.2 h2, List.filter_eq_nil_iff.2 (fun p hp => by rw [h3 p hp]; decide), List.nil_append, List.append_nil]

theorem srt_gt {P : List Pr} (hs : Srt P) {i j : Nat} (hij : i < j) (hj : j < P.length) : ltB (gt P i).1 (gt P j).1 = true := by
  rw [gt_eq (by omega), gt_eq hj]
  exact List.pairwise_iff_getElem.1 hs i j (by omega) hj hij

theorem cut_is {P : List Pr} (hs : Srt P) {l h : Ky} {j : Nat} (h1 : pos P l ≤ j) (h2 : j ≤ P.length) (h3 : ∀ i, pos P l ≤ i → i < j → inB l h (gt P i).1 = true) (h4 : j < P.length → inB l h (gt P j).1 = false) :
    (P.drop (pos P l)).take (j - pos P l) = cutL P l h := by
  have e1 : (P.drop (pos P l)).take (j - pos P l) ++ P.drop j = P.drop (pos P l) := by
    have := List.take_append_drop (j - pos P l) (P.drop (pos P l))
    rwa [List.drop_drop, show pos P l + (j - pos P l) = j by omega] at this
  have e : P.take (pos P l) ++ ((P.drop (pos P l)).take (j - pos P l) ++ P.drop j) = P := by rw [e1, List.take_append_drop]
  have hall : cutL (P.take (pos P l) ++ ((P.drop (pos P l)).take (j - pos P l) ++ P.drop j)) l h = (P.drop (pos P l)).take (j - pos P l) := by
    refine filter3 (fun p hp => ?_) (fun p hp => ?_) (fun p hp => ?_)
    · obtain ⟨i, hi, rfl⟩ := List.getElem_of_mem hp
      rw [List.length_take] at hi
      rw [List.getElem_take, ← gt_eq (by omega)]
      have := pos_lt hs l (show i < P.length by omega)
      unfold inB
      rw [this, show decide (i < pos P l) = true by simp; omega]
      rfl
    · obtain ⟨i, hi, rfl⟩ := List.getElem_of_mem hp
      rw [List.length_take, List.length_drop] at hi
      rw [List.getElem_take, List.getElem_drop, ← gt_eq (by omega)]
      exact h3 _ (by omega) (by omega)
    · obtain ⟨i, hi, rfl⟩ := List.getElem_of_mem hp
      rw [List.length_drop] at hi
      rw [List.getElem_drop, ← gt_eq (by omega)]
      have h5 := h4 (by omega)
      rcases Nat.eq_zero_or_pos i with h0 | h0
      · subst h0
        exact h5
      · have h6 := pos_lt hs l (show j < P.length by omega)
        rw [show decide (j < pos P l) = false by simp; omega] at h6
        have h7 := srt_gt hs (show j < j + i by omega) (by omega)
        unfold inB at h5 ⊢
        rw [h6] at h5
        unfold belowB at h5 ⊢
        cases hz : decide (h.length = 0)
        · rw [hz] at h5
          cases hb : ltB (gt P (j + i)).1 h
          · simp
          · rw [ltB_trans h7 hb] at h5
            cases h5
        · rw [hz] at h5
          cases h5
  rw [e] at hall
  exact hall.symm

/-- A slice of one slice, in a new block. -/
theorem piece1 {w : World} {A : Option Addr} {n c : Nat} {L : List Pr} (h : Prs w A n c L) (T : TypeId) : Pieces (w.alloc (.cells #[.slice A n c] T)) w.heap.size 1 (fun _ => A) (fun _ => n) (fun _ => c) (fun _ => L) :=
  ⟨by simp, fun j hj => by
    obtain rfl : j = 0 := by omega
    exact ⟨by simp, h.alloc _⟩⟩

theorem bel_drawn {B : Nat} {a w : World} (h : Below B a w) (k : Nat) : Below B a (w.drewN k) := ⟨h.os, h.tape, h.output, h.size, h.block⟩

theorem small_cut {P : List Pr} (h : Small P) (l k : Ky) : Small (cutL P l k) := fun p hp => h p (List.mem_filter.1 hp).1

end Go.Proofs.Ythcchaglloggjaa
