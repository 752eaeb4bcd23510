/- The contract of the arena's Free. Condition: at most 10000 numbers. -/
import Derived.Test.YtbphjhmmdkaggaaNh
import Derived.Deep.AppendLies
namespace Go.Proofs.Ytbphjhmmdkaggaa
open Go.RowKit
set_option linter.unusedVariables false

theorem pair_set0 {w : World} {b : Nat} {T : TypeId} {a0 a1 : Value} (u : Value) (h : w.heap[b]? = some (.cells #[a0, a1] T (0, 0))) : (w.setCell ⟨b, 0, none⟩ u).heap[b]? = some (.cells #[u, a1] T (0, 0)) := by
  simp [World.setCell, Array.getElem?_modify, h]
theorem pair_set1 {w : World} {b : Nat} {T : TypeId} {a0 a1 : Value} (u : Value) (h : w.heap[b]? = some (.cells #[a0, a1] T (0, 0))) : (w.setCell ⟨b, 1, none⟩ u).heap[b]? = some (.cells #[a0, u] T (0, 0)) := by
  simp [World.setCell, Array.getElem?_modify, h]

/-- The world where six cells were stored. -/
def wsix (w : World) (b o : Nat) (u0 u1 u2 u3 u4 u5 : Value) : World := (((((w.setCell ⟨b, o, none⟩ u0).setCell ⟨b, o + 1, none⟩ u1).setCell ⟨b, o + 2, none⟩ u2).setCell ⟨b, o + 3, none⟩ u3).setCell ⟨b, o + 4, none⟩ u4).setCell ⟨b, o + 5, none⟩ u5
theorem six_agr {C : Nat → Prop} (w : World) {b : Nat} (o : Nat) (u0 u1 u2 u3 u4 u5 : Value) (hb : ¬ C b) : Agree C w (wsix w b o u0 u1 u2 u3 u4 u5) :=
  (five_agree w o u0 u1 u2 u3 u4 hb).trans (agree_set _ ⟨b, o + 5, none⟩ u5 hb)
theorem six_only {D : Nat → Prop} {b : Nat} {a w : World} (h : Only D a w) (hb : a.heap.size ≤ b ∨ D b) (o : Nat) (u0 u1 u2 u3 u4 u5 : Value) : Only D a (wsix w b o u0 u1 u2 u3 u4 u5) :=
  (five_only h hb o u0 u1 u2 u3 u4).set ⟨b, o + 5, none⟩ u5 hb
theorem six_other {b g : Nat} {w : World} (hb : g ≠ b) (o : Nat) (u0 u1 u2 u3 u4 u5 : Value) : (wsix w b o u0 u1 u2 u3 u4 u5).heap[g]? = w.heap[g]? := by
  unfold wsix
  rw [Below.heap_setCell _ _ _ _ hb]
  exact five_other hb o u0 u1 u2 u3 u4
theorem six_size {b : Nat} {w : World} (o : Nat) (u0 u1 u2 u3 u4 u5 : Value) : (wsix w b o u0 u1 u2 u3 u4 u5).heap.size = w.heap.size := by
  simp [wsix, World.setCell]
theorem six_own {b n cap k s base : Nat} {e : TypeId} {w : World} {xs : List Value} (h : w.ownsRow base e s (.slice (some ⟨b, 0, none⟩) n cap) n xs) (u0 u1 u2 u3 u4 u5 : Value) :
    (wsix w b k u0 u1 u2 u3 u4 u5).ownsRow base e s (.slice (some ⟨b, 0, none⟩) n cap) n ((((((xs.set k u0).set (k + 1) u1).set (k + 2) u2).set (k + 3) u3).set (k + 4) u4).set (k + 5) u5) :=
  own_set (five_own h u0 u1 u2 u3 u4) (k + 5) u5
theorem set6_other {xs : List Value} {k i r : Nat} (u0 u1 u2 u3 u4 u5 : Value) (h : i ≠ k) (hr : r < 6) :
    ((((((xs.set (k * 6) u0).set (k * 6 + 1) u1).set (k * 6 + 2) u2).set (k * 6 + 3) u3).set (k * 6 + 4) u4).set (k * 6 + 5) u5)[i * 6 + r]? = xs[i * 6 + r]? := by
  rw [List.getElem?_set_ne (by omega)]
  exact set5_other u0 u1 u2 u3 u4 h hr
theorem set6_at {xs : List Value} {k : Nat} (u0 u1 u2 u3 u4 u5 : Value) (h : k * 6 + 5 < xs.length) :
    let ys := ((((((xs.set (k * 6) u0).set (k * 6 + 1) u1).set (k * 6 + 2) u2).set (k * 6 + 3) u3).set (k * 6 + 4) u4).set (k * 6 + 5) u5)
    ys[k * 6]? = some u0 ∧ ys[k * 6 + 1]? = some u1 ∧ ys[k * 6 + 2]? = some u2 ∧ ys[k * 6 + 3]? = some u3 ∧ ys[k * 6 + 4]? = some u4 ∧ ys[k * 6 + 5]? = some u5 := by
  obtain ⟨h0, h1, h2, h3, h4, h5, h6⟩ := set5_at (xs := xs) u0 u1 u2 u3 u4 h
  refine ⟨?_, ?_, ?_, ?_, ?_, ?_⟩
  · rw [List.getElem?_set_ne (by omega)]; exact h0
  · rw [List.getElem?_set_ne (by omega)]; exact h1
  · rw [List.getElem?_set_ne (by omega)]; exact h2
  · rw [List.getElem?_set_ne (by omega)]; exact h3
  · rw [List.getElem?_set_ne (by omega)]; exact h4
  · rw [List.getElem?_set_self (by rw [h6]; exact h)]

/-- The six cells of a number, whatever they hold. -/
theorem ArW.any {w : World} {C D : Nat → Prop} {g : Nat} {L : List (Option Nd)} {F : List Nat} {P Q : Option Addr} {pc qc : Nat} {xs : List Value} (h : ArW w C D g L F P Q pc qc xs) {k : Nat} (hk : k < L.length) :
    ∃ p u0 u1 u2 u3 u4 u5, P = some ⟨p, 0, none⟩ ∧ D p ∧ p ≠ g ∧ ¬ C p ∧ w.cell? ⟨p, k * 6, none⟩ = some u0 ∧ w.cell? ⟨p, k * 6 + 1, none⟩ = some u1 ∧ w.cell? ⟨p, k * 6 + 2, none⟩ = some u2 ∧
      w.cell? ⟨p, k * 6 + 3, none⟩ = some u3 ∧ w.cell? ⟨p, k * 6 + 4, none⟩ = some u4 ∧ w.cell? ⟨p, k * 6 + 5, none⟩ = some u5 ∧ ∀ o, w.frozen? ⟨p, o, none⟩ = false := by
  obtain ⟨h1, h2, h3, h4, h5, h6⟩ := h
  obtain ⟨p, rfl, -, -⟩ := own_at h2 (by omega)
  have hp := h6.p _ rfl
  have hl := h2.1
  have hc : ∀ r, r < 6 → w.cell? ⟨p, k * 6 + r, none⟩ = some (xs.getD (k * 6 + r) .nilIface) := fun r hr => by
    rw [h2.cellAt _ (by omega), List.getD_eq_getElem?_getD, List.getElem?_eq_getElem (by omega)]
    rfl
  exact ⟨p, _, _, _, _, _, _, rfl, hp.1, hp.2.2, hp.2.1, hc 0 (by omega), hc 1 (by omega), hc 2 (by omega), hc 3 (by omega), hc 4 (by omega), hc 5 (by omega), fun o => h2.frozenAt o⟩

/-- An arena whose place of a number was filled anew. -/
theorem ArW.put6 {w w1 : World} {C D : Nat → Prop} {g p k pc qc : Nat} {L : List (Option Nd)} {F : List Nat} {Q : Option Addr} {xs : List Value} {o : Option Nd} {u0 u1 u2 u3 u4 u5 : Value} (h : ArW w C D g L F (some ⟨p, 0, none⟩) Q pc qc xs) (hk : k < L.length) (hF : k ∉ F)
    (hb : Below w.heap.size w w1) (hn : ∀ ys : List Value, ys[k * 6]? = some u0 → ys[k * 6 + 1]? = some u1 → ys[k * 6 + 2]? = some u2 → ys[k * 6 + 3]? = some u3 → ys[k * 6 + 4]? = some u4 → ys[k * 6 + 5]? = some u5 →
      PlaceAt (grow C w (wsix w1 p (k * 6) u0 u1 u2 u3 u4 u5)) (wsix w1 p (k * 6) u0 u1 u2 u3 u4 u5) ys k o) :
    ∃ ys, ArW (wsix w1 p (k * 6) u0 u1 u2 u3 u4 u5) (grow C w (wsix w1 p (k * 6) u0 u1 u2 u3 u4 u5)) (grow D w (wsix w1 p (k * 6) u0 u1 u2 u3 u4 u5)) g (L.set k o) F (some ⟨p, 0, none⟩) Q pc qc ys ∧ Only D w (wsix w1 p (k * 6) u0 u1 u2 u3 u4 u5) := by
  have hw := h
  obtain ⟨h1, h2', h3, h4, h5, h6⟩ := h
  have hp := h6.p _ rfl
  have hgl := h6.lt g h6.dg
  have hlen := h2'.1
  obtain ⟨e0, e1, e2, e3, e4, e5⟩ := set6_at (xs := xs) (k := k) u0 u1 u2 u3 u4 u5 (by omega)
  refine ⟨_, hw.put hk hF ?_ ?_ (six_own (own_keep h2' hb) _ _ _ _ _ _) ?_ (fun i r hi hr => set6_other _ _ _ _ _ _ hi hr) ((below_all hb).trans (six_agr w1 _ _ _ _ _ _ _ hp.2.1)) (hn _ e0 e1 e2 e3 e4 e5), six_only (below_only hb) (.inr hp.1) _ _ _ _ _ _ _⟩
  · rw [six_size]; exact hb.size
  · rw [six_other (by exact fun e => hp.2.2 e.symm)]
    exact hb.block g hgl
  · intro a e
    rw [six_other (fun e' => h6.pq _ _ rfl e e'.symm)]
    exact hb.block _ (h6.lt _ (h6.q a e).1)

/-- An arena with one free number more. -/
theorem ArW.free1 {w w2 w3 : World} {C D : Nat → Prop} {g k pc qc q' qc' : Nat} {L : List (Option Nd)} {F : List Nat} {P Q : Option Addr} {xs : List Value} (h : ArW w C D g L F P Q pc qc xs) (hk : k < L.length) (hF : k ∉ F) (hl : lat L k = none)
    (hb : Below w.heap.size w w2) (hown : w3.ownsRow 0 3 1 (.slice (some ⟨q', 0, none⟩) (F.length + 1) qc') (F.length + 1) (F.map natV ++ [natV k])) (hg : w2.grownBy w3 (Value.slice Q F.length qc).ownBlock)
    (hat : (Value.slice Q F.length qc).ownBlock = some q' ∨ w.heap.size ≤ q') (hlt : q' < w3.heap.size) :
    ArW (w3.setCell ⟨g, 1, none⟩ (.slice (some ⟨q', 0, none⟩) (F.length + 1) qc')) C (grow D w (w3.setCell ⟨g, 1, none⟩ (.slice (some ⟨q', 0, none⟩) (F.length + 1) qc'))) g L (F ++ [k]) P (some ⟨q', 0, none⟩) pc qc' xs ∧
      Only D w (w3.setCell ⟨g, 1, none⟩ (.slice (some ⟨q', 0, none⟩) (F.length + 1) qc')) := by
  obtain ⟨h1, h2, h3, h4, h5, h6⟩ := h
  have hgl := h6.lt g h6.dg
  have hQ : ∀ b, (Value.slice Q F.length qc).ownBlock = some b → D b ∧ ¬ C b ∧ b ≠ g ∧ ∀ a, P = some a → a.block ≠ b := fun b e => by
    cases Q with
    | none => cases e
    | some a =>
      injection e with e
      subst e
      have := h6.q a rfl
      exact ⟨this.1, this.2.1, this.2.2, fun a' e' => h6.pq a' a e' rfl⟩
  have hs : w.heap.size ≤ w3.heap.size := Nat.le_trans hb.size hg.size
  have hsz : (w3.setCell ⟨g, 1, none⟩ (.slice (some ⟨q', 0, none⟩) (F.length + 1) qc')).heap.size = w3.heap.size := by simp [World.setCell]
  have h3g : ∀ b, b < w.heap.size → (∀ c, (Value.slice Q F.length qc).ownBlock = some c → b ≠ c) → w3.heap[b]? = w.heap[b]? := fun b hb1 hb2 => (hg.block b (Nat.lt_of_lt_of_le hb1 hb.size) (fun e => hb2 b e.symm rfl)).trans (hb.block b hb1)
  have hqg : q' ≠ g := by
    rcases hat with e | e
    · exact (hQ q' e).2.2.1
    · omega
  have hagP : ∀ E : Nat → Prop, (∀ b, E b → D b ∧ (∀ c, (Value.slice Q F.length qc).ownBlock = some c → b ≠ c) ∧ b ≠ g) → Agree E w (w3.setCell ⟨g, 1, none⟩ (.slice (some ⟨q', 0, none⟩) (F.length + 1) qc')) := fun E hE =>
    ⟨by rw [hsz]; exact hs, fun b hb1 hl => by
      rw [Below.heap_setCell _ _ _ _ (hE b hb1).2.2]
      exact h3g b hl (hE b hb1).2.1⟩
  refine ⟨⟨?_, ?_, ?_, fun i hi => (h4 i hi).keep (hagP C fun b hc => ⟨h6.cd b hc, fun c e e' => (hQ c e).2.1 (e' ▸ hc), fun e => h6.cg (e ▸ hc)⟩), ⟨?_, ?_⟩, ?_⟩, ?_⟩
  · have := (h3g g hgl fun c e => (hQ c e).2.2.1.symm).trans h1
    have := pair_set1 (.slice (some ⟨q', 0, none⟩) (F.length + 1) qc') this
    rw [this, List.length_append]
    rfl
  · refine own_agree h2 (hagP (fun b => ∃ a, P = some a ∧ a.block = b) ?_) ?_
    · rintro b ⟨a, e, rfl⟩
      exact ⟨(h6.p a e).1, fun c e' => (hQ c e').2.2.2 a e, (h6.p a e).2.2⟩
    · intro b e
      cases P with
      | none => cases e
      | some a => injection e with e; exact ⟨a, rfl, e⟩
  · rw [List.length_append, List.map_append]
    refine own_agree hown (C := (· = q')) (agree_set w3 _ _ (by exact fun e => hqg e.symm)) (fun b e => by injection e with e; exact e.symm)
  · exact List.nodup_append.2 ⟨h5.1, by simp, fun a ha b hb => by simp at hb; subst hb; exact fun e => hF (e ▸ ha)⟩
  · intro i hi
    rcases List.mem_append.1 hi with hi | hi
    · exact h5.2 i hi
    · simp at hi
      subst hi
      exact ⟨hk, hl⟩
  · refine ⟨.inl h6.dg, h6.cg, fun a e => ⟨.inl (h6.p a e).1, (h6.p a e).2⟩, ?_, ?_, fun b hb => .inl (h6.cd b hb), ?_⟩
    · intro a e
      injection e with e
      subst e
      refine ⟨?_, ?_, hqg⟩
      · rcases hat with e | e
        · exact .inl (hQ q' e).1
        · exact .inr ⟨e, by rw [hsz]; exact hlt⟩
      · rcases hat with e | e
        · exact (hQ q' e).2.1
        · exact fun hc => by have := h6.lt _ (h6.cd _ hc); simp at this; omega
    · intro a b e e'
      injection e' with e'
      subst e'
      rcases hat with e1 | e1
      · exact (hQ q' e1).2.2.2 a e
      · have := h6.lt _ (h6.p a e).1
        show a.block ≠ q'
        omega
    · intro b hb
      rw [hsz]
      rcases hb with hb | hb
      · exact Nat.lt_of_lt_of_le (h6.lt b hb) hs
      · rw [hsz] at hb; exact hb.2
  · exact ((below_only hb).grown hg (fun c e => .inr (hQ c e).1)).set _ _ (.inr h6.dg)
end Go.Proofs.Ytbphjhmmdkaggaa
