/- An object whose fields are slices of its own: what is stored, cut off, or put behind. No condition. -/
import Derived.Test.YtbphjhmmdkaggaaNv
namespace Go.Proofs.Ytbphjhmmdkaggaa
open Go.RowKit
set_option linter.unusedVariables false

/-- A slice of one's own: where it lies, its capacity, its elements' type and cells, how many, and what they hold. -/
structure RowD where
  A : Option Addr
  c : Nat
  e : TypeId
  s : Nat
  n : Nat
  xs : List Value
abbrev RowD.v (d : RowD) : Value := .slice d.A d.n d.c

/-- An object at block r whose fields are slices of its own; all its blocks are among those that E names. -/
structure Own (w : World) (E : Nat → Prop) (r : Nat) (T0 : TypeId) (ds : List RowD) : Prop where
  hr : w.heap[r]? = some (.cells (ds.map RowD.v).toArray T0 (0, 0))
  row : ∀ (i : Nat) (d : RowD), ds[i]? = some d → w.ownsRow 0 d.e d.s d.v d.n d.xs
  er : E r
  el : ∀ (i : Nat) (d : RowD), ds[i]? = some d → ∀ a : Addr, d.A = some a → E a.block ∧ a.block ≠ r
  ap : ∀ (i j : Nat) (di dj : RowD), ds[i]? = some di → ds[j]? = some dj → i ≠ j → ∀ a b : Addr, di.A = some a → dj.A = some b → a.block ≠ b.block
  lt : ∀ b, E b → b < w.heap.size

theorem own_block {d : RowD} {k : Nat} (h : d.v.ownBlock = some k) : ∃ a, d.A = some a ∧ a.block = k := by
  unfold RowD.v at h
  cases hA : d.A with
  | none => rw [hA] at h; cases h
  | some a => rw [hA] at h; injection h with h; exact ⟨a, rfl, h⟩

theorem Own.keep {w w' : World} {E : Nat → Prop} {r : Nat} {T0 : TypeId} {ds : List RowD} (h : Own w E r T0 ds) (ha : Agree E w w') : Own w' E r T0 ds :=
  ⟨by rw [ha.2 r h.er (h.lt r h.er)]; exact h.hr, fun i d hd => own_agree (h.row i d hd) ha fun k hk => by
    obtain ⟨a, e, rfl⟩ := own_block hk
    exact (h.el i d hd a e).1, h.er, h.el, h.ap, fun b hb => Nat.lt_of_lt_of_le (h.lt b hb) ha.1⟩

theorem set_at {ds : List RowD} {i j : Nat} {d d' dj : RowD} (hi : ds[i]? = some d) (h : (ds.set i d')[j]? = some dj) : (j = i ∧ dj = d') ∨ (j ≠ i ∧ ds[j]? = some dj) := by
  obtain ⟨hl, _⟩ := List.getElem?_eq_some_iff.1 hi
  by_cases e : j = i
  · subst e
    rw [List.getElem?_set_self hl] at h
    injection h with h
    exact .inl ⟨rfl, h.symm⟩
  · rw [List.getElem?_set_ne (fun h => e h.symm)] at h
    exact .inr ⟨e, h⟩

theorem set_obj {w : World} {r i : Nat} {T0 : TypeId} {ds : List RowD} {d : RowD} (h : w.heap[r]? = some (.cells (ds.map RowD.v).toArray T0 (0, 0))) : (w.setCell ⟨r, i, none⟩ d.v).heap[r]? = some (.cells ((ds.set i d).map RowD.v).toArray T0 (0, 0)) := by
  simp [World.setCell, Array.getElem?_modify, h, List.map_set]

/-- A cell of one of its slices is stored into. -/
theorem Own.store {w : World} {E : Nat → Prop} {r i p : Nat} {T0 : TypeId} {ds : List RowD} {d : RowD} (h : Own w E r T0 ds) (hi : ds[i]? = some d) (hp : d.A = some ⟨p, 0, none⟩) (k : Nat) (u : Value) :
    Own (w.setCell ⟨p, k, none⟩ u) E r T0 (ds.set i { d with xs := d.xs.set k u }) := by
  have hpe := h.el i d hi _ hp
  have hd : { d with xs := d.xs.set k u }.v = d.v := rfl
  refine ⟨?_, fun j dj hj => ?_, h.er, fun j dj hj => ?_, fun j l dj dl hj hl hne => ?_, fun b hb => by simpa [World.setCell] using h.lt b hb⟩
  · rw [Below.heap_setCell w ⟨p, k, none⟩ u r (fun e => hpe.2 e.symm), List.map_set, hd]
    rw [show (ds.map RowD.v).set i d.v = ds.map RowD.v from by
      rw [← List.map_set]
      congr 1
      obtain ⟨hl, e⟩ := List.getElem?_eq_some_iff.1 hi
      rw [← e, List.set_getElem_self]]
    exact h.hr
  · rcases set_at hi hj with ⟨rfl, rfl⟩ | ⟨e, hj'⟩
    · have := h.row _ d hi
      unfold RowD.v at this ⊢
      simp only [hp] at this ⊢
      exact own_set this k u
    · refine own_agree (h.row j dj hj') (C := fun b => ∃ a : Addr, dj.A = some a ∧ a.block = b) (agree_set w _ _ ?_) (fun b hb => own_block hb)
      rintro ⟨a, e1, e2⟩
      exact h.ap j i dj d hj' hi e a ⟨p, 0, none⟩ e1 hp e2
  · rcases set_at hi hj with ⟨rfl, rfl⟩ | ⟨_, hj'⟩
    · exact h.el _ d hi
    · exact h.el j dj hj'
  · intro a b ha hb
    rcases set_at hi hj with ⟨rfl, rfl⟩ | ⟨e1, hj'⟩
    · rcases set_at hi hl with ⟨rfl, rfl⟩ | ⟨e2, hl'⟩
      · exact absurd rfl hne
      · exact h.ap _ l d dl hi hl' hne a b ha hb
    · rcases set_at hi hl with ⟨rfl, rfl⟩ | ⟨e2, hl'⟩
      · exact h.ap j _ dj d hj' hi hne a b ha hb
      · exact h.ap j l dj dl hj' hl' hne a b ha hb

/-- One of its slices is cut at its end. -/
theorem Own.cut {w : World} {E : Nat → Prop} {r i m : Nat} {T0 : TypeId} {ds : List RowD} {d : RowD} (h : Own w E r T0 ds) (hi : ds[i]? = some d) (hm : m ≤ d.n) :
    Own (w.setCell ⟨r, i, none⟩ (.slice d.A m d.c)) E r T0 (ds.set i { d with n := m, xs := d.xs.take (m * d.s) }) := by
  have hag : ∀ (j : Nat) (dj : RowD), ds[j]? = some dj → Agree (fun b => ∃ a : Addr, dj.A = some a ∧ a.block = b) w (w.setCell ⟨r, i, none⟩ (.slice d.A m d.c)) := fun j dj hj => agree_set w _ _ (by
    rintro ⟨a, e1, e2⟩
    exact (h.el j dj hj a e1).2 e2)
  refine ⟨set_obj (d := { d with n := m, xs := d.xs.take (m * d.s) }) h.hr, fun j dj hj => ?_, h.er, fun j dj hj => ?_, fun j l dj dl hj hl hne => ?_, fun b hb => by simpa [World.setCell] using h.lt b hb⟩
  · rcases set_at hi hj with ⟨rfl, rfl⟩ | ⟨e, hj'⟩
    · refine own_agree (own_cut (h.row _ d hi) hm) (hag _ d hi) (fun b hb => ?_)
      cases hA : d.A with
      | none => simp only [hA] at hb; cases hb
      | some a => simp only [hA] at hb; injection hb with hb; exact ⟨a, rfl, hb⟩
    · exact own_agree (h.row j dj hj') (hag j dj hj') (fun b hb => own_block hb)
  · rcases set_at hi hj with ⟨rfl, rfl⟩ | ⟨_, hj'⟩
    · exact h.el _ d hi
    · exact h.el j dj hj'
  · intro a b ha hb
    rcases set_at hi hj with ⟨rfl, rfl⟩ | ⟨e1, hj'⟩
    · rcases set_at hi hl with ⟨rfl, rfl⟩ | ⟨e2, hl'⟩
      · exact absurd rfl hne
      · exact h.ap _ l d dl hi hl' hne a b ha hb
    · rcases set_at hi hl with ⟨rfl, rfl⟩ | ⟨e2, hl'⟩
      · exact h.ap j _ dj d hj' hi hne a b ha hb
      · exact h.ap j l dj dl hj' hl' hne a b ha hb

/-- Something is put behind one of its slices. -/
theorem Own.push {w w2 w3 : World} {E : Nat → Prop} {r i p' c' n' : Nat} {T0 : TypeId} {ds : List RowD} {d : RowD} {xs' : List Value} (h : Own w E r T0 ds) (hi : ds[i]? = some d) (hb : Below w.heap.size w w2)
    (hown : w3.ownsRow 0 d.e d.s (.slice (some ⟨p', 0, none⟩) n' c') n' xs') (hg : w2.grownBy w3 d.v.ownBlock) (hat : d.v.ownBlock = some p' ∨ w.heap.size ≤ p') (hlt : p' < w3.heap.size) :
    Own (w3.setCell ⟨r, i, none⟩ (.slice (some ⟨p', 0, none⟩) n' c')) (grow E w (w3.setCell ⟨r, i, none⟩ (.slice (some ⟨p', 0, none⟩) n' c'))) r T0 (ds.set i { d with A := some ⟨p', 0, none⟩, c := c', n := n', xs := xs' }) ∧
      Only E w (w3.setCell ⟨r, i, none⟩ (.slice (some ⟨p', 0, none⟩) n' c')) := by
  have hrl := h.lt r h.er
  have hD : ∀ b, d.v.ownBlock = some b → E b ∧ b ≠ r ∧ b < w.heap.size ∧ ∀ (j : Nat) (dj : RowD), ds[j]? = some dj → j ≠ i → ∀ a : Addr, dj.A = some a → a.block ≠ b := fun b e => by
    obtain ⟨a, ea, rfl⟩ := own_block e
    have := h.el i d hi a ea
    exact ⟨this.1, this.2, h.lt _ this.1, fun j dj hj hne a' e' => h.ap j i dj d hj hi hne a' a e' ea⟩
  have hs : w.heap.size ≤ w3.heap.size := Nat.le_trans hb.size hg.size
  have hsz : (w3.setCell ⟨r, i, none⟩ (.slice (some ⟨p', 0, none⟩) n' c')).heap.size = w3.heap.size := by simp [World.setCell]
  have h03 : ∀ b, b < w.heap.size → (∀ c, d.v.ownBlock = some c → b ≠ c) → w3.heap[b]? = w.heap[b]? := fun b hb1 hb2 => (hg.block b (Nat.lt_of_lt_of_le hb1 hb.size) (fun e => hb2 b e.symm rfl)).trans (hb.block b hb1)
  have hpr : p' ≠ r := by
    rcases hat with e | e
    · exact (hD p' e).2.1
    · omega
  have hap : ∀ (j : Nat) (dj : RowD), ds[j]? = some dj → j ≠ i → ∀ a : Addr, dj.A = some a → a.block ≠ p' := fun j dj hj hne a ea => by
    rcases hat with e | e
    · exact (hD p' e).2.2.2 j dj hj hne a ea
    · have := h.lt _ (h.el j dj hj a ea).1; omega
  refine ⟨⟨?_, fun j dj hj => ?_, .inl h.er, fun j dj hj a ea => ?_, fun j l dj dl hj hl hne a b ha hb => ?_, fun b hb => ?_⟩, ((below_only hb).grown hg (fun c e => .inr (hD c e).1)).set _ _ (.inr h.er)⟩
  · exact set_obj (d := { d with A := some ⟨p', 0, none⟩, c := c', n := n', xs := xs' }) ((h03 r hrl fun c e => (hD c e).2.1.symm).trans h.hr)
  · rcases set_at hi hj with ⟨rfl, rfl⟩ | ⟨e, hj'⟩
    · exact own_agree hown (C := (· = p')) (agree_set w3 _ _ (by exact fun e => hpr e.symm)) (fun b e => by injection e with e; exact e.symm)
    · refine own_agree (h.row j dj hj') (C := fun b => ∃ a : Addr, dj.A = some a ∧ a.block = b) ⟨by rw [hsz]; exact hs, ?_⟩ (fun b hb => own_block hb)
      rintro b ⟨a, ea, rfl⟩ hl
      rw [Below.heap_setCell _ _ _ _ (h.el j dj hj' a ea).2]
      exact h03 _ hl (fun c ec => (hD c ec).2.2.2 j dj hj' e a ea)
  · rcases set_at hi hj with ⟨rfl, rfl⟩ | ⟨e, hj'⟩
    · injection ea with ea
      subst ea
      refine ⟨?_, hpr⟩
      rcases hat with e | e
      · exact .inl (hD p' e).1
      · exact .inr ⟨e, by rw [hsz]; exact hlt⟩
    · exact ⟨.inl (h.el j dj hj' a ea).1, (h.el j dj hj' a ea).2⟩
  · rcases set_at hi hj with ⟨rfl, rfl⟩ | ⟨e1, hj'⟩
    · rcases set_at hi hl with ⟨rfl, rfl⟩ | ⟨e2, hl'⟩
      · exact absurd rfl hne
      · injection ha with ha
        subst ha
        exact fun e => hap l dl hl' e2 b hb e.symm
    · rcases set_at hi hl with ⟨rfl, rfl⟩ | ⟨e2, hl'⟩
      · injection hb with hb
        subst hb
        exact hap j dj hj' e1 a ha
      · exact h.ap j l dj dl hj' hl' hne a b ha hb
  · rw [hsz]
    rcases hb with hb | hb
    · exact Nat.lt_of_lt_of_le (h.lt b hb) hs
    · rw [hsz] at hb; exact hb.2
end Go.Proofs.Ytbphjhmmdkaggaa
