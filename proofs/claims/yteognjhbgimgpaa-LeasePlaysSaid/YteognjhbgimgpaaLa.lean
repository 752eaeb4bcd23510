/- A lease in memory, the program's and the document's own; what is told of both by plain functions of what is there. Condition: at most a thousand ticks, a holder that is none or a number, epochs of at most a million. -/
import Derived.Test.YteognjhbgimgpaaErr
import Derived.BigRegion
import Derived.Deep.QuietTactic
import Derived.BigQuiet
import Derived.IntWalk
namespace Go.Proofs.Yteognjhbgimgpaa
open Go.RowKit
set_option linter.unusedVariables false

/-- A lease: how long, the epoch, the holder, and up to which tick. -/
def LeM (w : World) (T : TypeId) (p : Nat) (L E H U : Int) : Prop :=
  w.heap[p]? = some (.cells #[.int .i64 L, .int .u64 E, .int .i64 H, .int .i64 U] T (0, 0))

/-- What holds of all leases that the law comes to. -/
structure OkL (L E H U : Int) : Prop where
  l1 : 1 ≤ L
  l2 : L ≤ 1000
  e1 : 0 ≤ E
  e2 : E ≤ 1000000
  h1 : -1 ≤ H
  h2 : H ≤ 9223372036854775807
  u1 : 0 ≤ U
  u2 : U ≤ 1099511628776

theorem LeM.c0 {w : World} {T : TypeId} {p : Nat} {L E H U : Int} (h : LeM w T p L E H U) : w.cell? ⟨p, 0, none⟩ = some (.int .i64 L) := by
  simp [World.cell?, show w.heap[p]? = _ from h]
theorem LeM.c1 {w : World} {T : TypeId} {p : Nat} {L E H U : Int} (h : LeM w T p L E H U) : w.cell? ⟨p, 1, none⟩ = some (.int .u64 E) := by
  simp [World.cell?, show w.heap[p]? = _ from h]
theorem LeM.c2 {w : World} {T : TypeId} {p : Nat} {L E H U : Int} (h : LeM w T p L E H U) : w.cell? ⟨p, 2, none⟩ = some (.int .i64 H) := by
  simp [World.cell?, show w.heap[p]? = _ from h]
theorem LeM.c3 {w : World} {T : TypeId} {p : Nat} {L E H U : Int} (h : LeM w T p L E H U) : w.cell? ⟨p, 3, none⟩ = some (.int .i64 U) := by
  simp [World.cell?, show w.heap[p]? = _ from h]
theorem LeM.frz {w : World} {T : TypeId} {p : Nat} {L E H U : Int} (h : LeM w T p L E H U) (j : Nat) : w.frozen? ⟨p, j, none⟩ = false := by
  simp [World.frozen?, show w.heap[p]? = _ from h]
theorem LeM.lt {w : World} {T : TypeId} {p : Nat} {L E H U : Int} (h : LeM w T p L E H U) : p < w.heap.size := (Array.getElem?_eq_some_iff.1 h).1
theorem LeM.of_block {w w' : World} {T : TypeId} {p : Nat} {L E H U : Int} (h : LeM w T p L E H U) (e : w'.heap[p]? = w.heap[p]?) : LeM w' T p L E H U := e.trans h
theorem LeM.drewN {w : World} {T : TypeId} {p : Nat} {L E H U : Int} (h : LeM w T p L E H U) (k : Nat) : LeM (w.drewN k) T p L E H U := h
theorem LeM.alloc {w : World} {T : TypeId} {p : Nat} {L E H U : Int} (h : LeM w T p L E H U) (o : Obj) : LeM (w.alloc o) T p L E H U :=
  h.of_block (Below.heap_alloc _ _ _ h.lt)
theorem lem_new (w : World) (T : TypeId) (L E H U : Int) : LeM (w.alloc (.cells #[.int .i64 L, .int .u64 E, .int .i64 H, .int .i64 U] T)) T w.heap.size L E H U := Deep.blk_alloc_new _ _

theorem LeM.set1 {w : World} {T : TypeId} {p : Nat} {L E H U : Int} (h : LeM w T p L E H U) (x : Int) : LeM (w.setCell ⟨p, 1, none⟩ (.int .u64 x)) T p L x H U := by
  have h' : w.heap[p]? = _ := h
  show (w.setCell ⟨p, 1, none⟩ (.int .u64 x)).heap[p]? = _
  simp [World.setCell, Array.getElem?_modify, h']
theorem LeM.set2 {w : World} {T : TypeId} {p : Nat} {L E H U : Int} (h : LeM w T p L E H U) (x : Int) : LeM (w.setCell ⟨p, 2, none⟩ (.int .i64 x)) T p L E x U := by
  have h' : w.heap[p]? = _ := h
  show (w.setCell ⟨p, 2, none⟩ (.int .i64 x)).heap[p]? = _
  simp [World.setCell, Array.getElem?_modify, h']
theorem LeM.set3 {w : World} {T : TypeId} {p : Nat} {L E H U : Int} (h : LeM w T p L E H U) (x : Int) : LeM (w.setCell ⟨p, 3, none⟩ (.int .i64 x)) T p L E H x := by
  have h' : w.heap[p]? = _ := h
  show (w.setCell ⟨p, 3, none⟩ (.int .i64 x)).heap[p]? = _
  simp [World.setCell, Array.getElem?_modify, h']

/-- Nothing but one block has turned. -/
structure One (w w' : World) (p : Nat) : Prop where
  os : w'.os = w.os
  tape : w'.tape = w.tape
  output : w'.output = w.output
  size : w'.heap.size = w.heap.size
  block : ∀ k, k ≠ p → w'.heap[k]? = w.heap[k]?
theorem One.refl (w : World) (p : Nat) : One w w p := ⟨rfl, rfl, rfl, rfl, fun _ _ => rfl⟩
theorem One.below {w w' : World} {p B : Nat} (h : One w w' p) (hp : B ≤ p) : Below B w w' :=
  ⟨h.os, h.tape, h.output, by rw [h.size]; exact Nat.le_refl _, fun k hk => h.block k (by omega)⟩
theorem One.set {w w' : World} {p : Nat} (h : One w w' p) (j : Nat) (v : Value) : One w (w'.setCell ⟨p, j, none⟩ v) p :=
  ⟨h.os, h.tape, h.output, by rw [← h.size]; simp [World.setCell], fun k h1 => (Below.heap_setCell _ _ _ _ (by simpa using h1)).trans (h.block k h1)⟩

/-- What a call leaves. -/
def Left (w w' : World) (T : TypeId) (p : Nat) (L E H U : Int) : Prop := LeM w' T p L E H U ∧ One w w' p
theorem Left.same {w : World} {T : TypeId} {p : Nat} {L E H U : Int} (h : LeM w T p L E H U) : Left w w T p L E H U := ⟨h, One.refl _ _⟩
theorem Left.set1 {w w' : World} {T : TypeId} {p : Nat} {L E H U : Int} (h : Left w w' T p L E H U) (x : Int) : Left w (w'.setCell ⟨p, 1, none⟩ (.int .u64 x)) T p L x H U := ⟨h.1.set1 x, h.2.set 1 _⟩
theorem Left.set2 {w w' : World} {T : TypeId} {p : Nat} {L E H U : Int} (h : Left w w' T p L E H U) (x : Int) : Left w (w'.setCell ⟨p, 2, none⟩ (.int .i64 x)) T p L E x U := ⟨h.1.set2 x, h.2.set 2 _⟩
theorem Left.set3 {w w' : World} {T : TypeId} {p : Nat} {L E H U : Int} (h : Left w w' T p L E H U) (x : Int) : Left w (w'.setCell ⟨p, 3, none⟩ (.int .i64 x)) T p L E H x := ⟨h.1.set3 x, h.2.set 3 _⟩

theorem ret_bool {a b : Bool} (h : a = b) : Ending.returned (.bool a) = .returned (.bool b) := by rw [h]

/-- May a worker, and a tick, be? -/
def frB (x now : Int) : Bool := decide (0 ≤ x) && (decide (0 ≤ now) && decide (now ≤ 1099511627776))
/-- What Check's error is. -/
def chK (E H x e : Int) : Int := if x < 0 then 1 else if H = x ∧ E = e then 0 else 8
/-- Is it held? -/
def heldB (H U now : Int) : Bool := decide (0 ≤ H) && decide (now < U)
/-- What Take's error is. -/
def takeK (H U x now : Int) : Int := if frB x now then (if H ≠ x ∧ heldB H U now = true then 7 else 0) else 1
def takeE (E H U x now : Int) : Int := if takeK H U x now = 0 then (if H = x then E else E + 1) else E
def takeH (H U x now : Int) : Int := if takeK H U x now = 0 then x else H
def takeU (L H U x now : Int) : Int := if takeK H U x now = 0 then now + L else U
def told (E H U x now : Int) : Int := if takeK H U x now = 0 then (if H = x then E else E + 1) else 0
/-- What Renew's error is, and what it leaves. -/
def renK (E H x e now : Int) : Int := if frB x now then chK E H x e else 1
def renU (L E H U x e now : Int) : Int := if renK E H x e now = 0 then now + L else U
def relH (E H x e : Int) : Int := if chK E H x e = 0 then -1 else H

theorem frB_cases (x now : Int) : (frB x now = true ∧ 0 ≤ x ∧ 0 ≤ now ∧ now ≤ 1099511627776) ∨ (frB x now = false ∧ (x < 0 ∨ (0 ≤ x ∧ (now < 0 ∨ (0 ≤ now ∧ 1099511627776 < now))))) := by
  unfold frB
  by_cases h1 : 0 ≤ x <;> by_cases h2 : 0 ≤ now <;> by_cases h3 : now ≤ 1099511627776 <;> simp [h1, h2, h3] <;> omega
theorem heldB_cases (H U now : Int) : (heldB H U now = true ∧ 0 ≤ H ∧ now < U) ∨ (heldB H U now = false ∧ (H < 0 ∨ (0 ≤ H ∧ U ≤ now))) := by
  unfold heldB
  by_cases h1 : 0 ≤ H <;> by_cases h2 : now < U <;> simp [h1, h2] <;> omega
theorem chK_cases (E H x e : Int) : (chK E H x e = 1 ∧ x < 0) ∨ (chK E H x e = 8 ∧ 0 ≤ x ∧ (H ≠ x ∨ (H = x ∧ E ≠ e))) ∨ (chK E H x e = 0 ∧ 0 ≤ x ∧ H = x ∧ E = e) := by
  unfold chK
  by_cases h1 : x < 0 <;> by_cases h2 : H = x <;> by_cases h3 : E = e <;> simp [h1, h2, h3] <;> omega
theorem chK_le (E H x e : Int) : 0 ≤ chK E H x e ∧ chK E H x e ≤ 11 := by
  rcases chK_cases E H x e with h | h | h <;> omega
theorem takeK_le (H U x now : Int) : 0 ≤ takeK H U x now ∧ takeK H U x now ≤ 11 := by
  unfold takeK; split <;> (try split) <;> omega
theorem renK_le (E H x e now : Int) : 0 ≤ renK E H x e now ∧ renK E H x e now ≤ 11 := by
  unfold renK; split
  · exact chK_le ..
  · omega

theorem take_ok {L E H U x now : Int} (h : OkL L E H U) (hE : E < 1000000) (hx : x ≤ 9223372036854775807) : OkL L (takeE E H U x now) (takeH H U x now) (takeU L H U x now) := by
  obtain ⟨l1, l2, e1, e2, h1, h2, u1, u2⟩ := h
  unfold takeE takeH takeU
  by_cases hk : takeK H U x now = 0
  · have hf : 0 ≤ x ∧ 0 ≤ now ∧ now ≤ 1099511627776 := by
      rcases frB_cases x now with h | h
      · exact h.2
      · unfold takeK at hk; rw [if_neg (by rw [h.1]; decide)] at hk; omega
    rw [if_pos hk, if_pos hk, if_pos hk]
    refine ⟨l1, l2, ?_, ?_, ?_, hx, ?_, ?_⟩
    all_goals (try split) <;> omega
  · rw [if_neg hk, if_neg hk, if_neg hk]
    exact ⟨l1, l2, e1, e2, h1, h2, u1, u2⟩
theorem take_le (E H U x now : Int) : takeE E H U x now ≤ E + 1 := by
  unfold takeE
  split
  · split <;> omega
  · omega
theorem ren_ok {L E H U x e now : Int} (h : OkL L E H U) : OkL L E H (renU L E H U x e now) := by
  obtain ⟨l1, l2, e1, e2, h1, h2, u1, u2⟩ := h
  unfold renU
  by_cases hk : renK E H x e now = 0
  · have hf : 0 ≤ x ∧ 0 ≤ now ∧ now ≤ 1099511627776 := by
      rcases frB_cases x now with h | h
      · exact h.2
      · unfold renK at hk; rw [if_neg (by rw [h.1]; decide)] at hk; omega
    rw [if_pos hk]
    refine ⟨l1, l2, e1, e2, h1, h2, ?_, ?_⟩ <;> omega
  · rw [if_neg hk]
    exact ⟨l1, l2, e1, e2, h1, h2, u1, u2⟩
theorem rel_ok {L E H U x e : Int} (h : OkL L E H U) : OkL L E (relH E H x e) U := by
  obtain ⟨l1, l2, e1, e2, h1, h2, u1, u2⟩ := h
  unfold relH
  refine ⟨l1, l2, e1, e2, ?_, ?_, u1, u2⟩ <;> split <;> omega
end Go.Proofs.Yteognjhbgimgpaa
