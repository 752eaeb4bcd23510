/- A slice of pairs that came in, and a slice of bytes that came in, read as lists. No condition. -/
import Derived.Test.YthcchaglloggjaaRows
import Derived.Test.YthcchaglloggjaaG1
import Derived.Deep.Slices
import Derived.Deep.Fields
import Derived.WalkKit
import Derived.ProofKit
import Derived.OpenShut
import Derived.ShutString
import Derived.ChangeOld
import Derived.Below
namespace Go.Proofs.Ythcchaglloggjaa
open Go.ChangeShapes Go.WideShapes Go.ChangeAt Go.RowKit Go.Deep
set_option linter.unusedVariables false
set_option maxRecDepth 100000

section
variable {H : Type} {enc : TypeId × Value → H} {P : Program} {w : World} {base : Nat} {spare : Nat → Bool} {held : Bool}
/-- A slice of structs that came in: nil, or at each element each field's own cell, and its reading. -/
theorem slice_cells {t e : TypeId} {fs : Array Field} {fuel : Nat} {cs : List Value} {x : DataW H × List MemPlace} (ht : P.underlying t = some (.slice e)) (he : P.underlying e = some (.struct fs))
    (hone : oneCellFields P fs = true) (hC : P.cellsOf e = fs.size) (h : DataW.trod enc P w base spare held fuel t cs = some x) :
    cs = [.slice none 0 0] ∨ ∃ (a : Addr) (len cap : Nat), cs = [.slice (some a) len cap] ∧ len ≤ cap ∧ cap ≤ maxLen ∧
      ∀ i, i < len → ∀ (j : Nat) (f : Field), fs[j]? = some f → ∃ (v : Value) (y : DataW H × List MemPlace) (n : Nat), w.cell? (a.add (i * fs.size + j)) = some v ∧ DataW.trod enc P w base spare held n f.type [v] = some y := by
  rcases open_slice ht h with h0 | ⟨a, len, cap, m, n, D, Pl, hcs, _, hl, hm, hmm, _, hi⟩
  · exact .inl h0.1
  · refine .inr ⟨a, len, cap, hcs, hl, hm, fun i hil j f hj => ?_⟩
    have him : i < m := by
      rw [hmm]
      split <;> omega
    obtain ⟨cs', hc, ht'⟩ := hi i him
    rw [hC] at hc
    obtain ⟨_, hcl, hat⟩ := World.cells?_some hc
    obtain ⟨ys, n', _, _, _, hyl, hf⟩ := DataW.trod_struct he ht'
    obtain ⟨ho, hk⟩ := hone_of hone j f hj
    have hjl : j < fs.size := (Array.getElem?_eq_some_iff.1 hj).1
    have h1 := hf j f hj
    rw [ho, hk] at h1
    have e1 : (cs'.drop j).take 1 = [cs'[j]'(by omega)] := by
      rw [List.drop_eq_getElem_cons (by omega)]
      rfl
    rw [e1, List.getElem?_eq_getElem (show j < ys.length by omega)] at h1
    refine ⟨cs'[j]'(by omega), _, n', ?_, h1⟩
    rw [← add_add, hat j hjl, List.getElem?_eq_getElem (by omega)]
end

/-- What holds of some pair at each place holds of a list's. -/
theorem list_of {Q : Nat → Pr → Prop} (n : Nat) (h : ∀ j, j < n → ∃ p, Q j p) : ∃ L : List Pr, L.length = n ∧ ∀ j, j < n → Q j (gt L j) := by
  induction n with
  | zero => exact ⟨[], rfl, fun j hj => absurd hj (by omega)⟩
  | succ n ih =>
    obtain ⟨L, h1, h2⟩ := ih (fun j hj => h j (by omega))
    obtain ⟨p, hp⟩ := h n (by omega)
    refine ⟨L ++ [p], by simp [h1], fun j hj => ?_⟩
    rcases Nat.lt_succ_iff_lt_or_eq.1 hj with hj | rfl
    · have : gt (L ++ [p]) j = gt L j := by
        rw [gt_eq (by simp; omega), gt_eq (by omega), List.getElem_append_left (by omega)]
      rw [this]
      exact h2 j hj
    · have : gt (L ++ [p]) j = p := by
        rw [gt_eq (by simp; omega), List.getElem_append_right (by omega)]
        simp [h1]
      rw [this]
      exact hp

section
variable {H : Type} {enc : TypeId × Value → H} {w : World} {base : Nat} {held : Bool}
/-- A slice of bytes that came in reads as a list. -/
theorem came {fuel : Nat} {v : Value} {x : DataW H × List MemPlace} (h : DataW.trod enc Try.prog w base (fun _ => true) held fuel 42 [v] = some x) :
    ∃ A n c l, v = .slice A n c ∧ Byt w A n l := by
  rcases open_ints Try.underlying42 Try.underlying5 (by kernel_rfl) h with ⟨hcs, _⟩ | ⟨a, n, c, zs, hcs, _, hl, hm, hz, _, hcell, hwz⟩
  · simp at hcs
    exact ⟨none, 0, 0, [], hcs, rfl, fun h => absurd h (by omega)⟩
  · simp at hcs
    have hz' : zs.length = c := by simpa using hz
    refine ⟨some a, n, c, (zs.take n).map fun z => z.toNat.toUInt8, hcs, by simp; omega, fun h0 => ⟨a, rfl, ?_, fun j hj => ?_⟩⟩
    · have := World.block_lt_of_cell? w _ (hcell 0 (by omega))
      rwa [add_block] at this
    · simp at hj
      rw [hcell j (by omega)]
      have hb := hwz (zs.getD j 0) (by
        rw [List.getD_eq_getElem?_getD, List.getElem?_eq_getElem (by omega)]
        exact List.getElem_mem _)
      simp [Lit.wf, IntKind.min, IntKind.max, IntKind.signed, IntKind.bits, List.getElem?_eq_getElem (show j < zs.length by omega)] at hb
      simp [List.getElem?_eq_getElem (show j < zs.length by omega)]
      omega

/-- A slice of pairs that came in reads as a list. -/
theorem came_pairs {fuel : Nat} {v : Value} {x : DataW H × List MemPlace} (h : DataW.trod enc Try.prog w base (fun _ => true) held fuel 43 [v] = some x) :
    ∃ A n c L, v = .slice A n c ∧ Prs w A n c L := by
  rcases slice_cells Try.underlying43 Try.underlying91 (by kernel_rfl) (by kernel_rfl) h with hcs | ⟨a, n, c, hcs, hl, hm, hcell⟩
  · simp at hcs
    exact ⟨none, 0, 0, [], hcs, prs_nil w⟩
  · simp at hcs
    obtain ⟨b, o, s⟩ := a
    rcases Nat.eq_zero_or_pos n with h0 | h0
    · subst h0
      exact ⟨_, 0, c, [], hcs, rfl, hl, hm, (fun e => by cases e), fun h => absurd h (by omega)⟩
    · obtain rfl : s = none := by
        obtain ⟨v0, y0, f0, e0, t0⟩ := hcell 0 h0 0 _ rfl
        simpa [Addr.add] using World.cell?_spot e0
      have hat : ∀ j, j < n → ∃ p : Pr, b < w.heap.size ∧ PairAt w b (o + j * 2) p := fun j hj => by
        obtain ⟨v0, y0, f0, e0, t0⟩ := hcell j hj 0 _ rfl
        obtain ⟨v1, y1, f1, e1, t1⟩ := hcell j hj 1 _ rfl
        obtain ⟨A, n1, c1, l, rfl, b1⟩ := came t0
        obtain ⟨B, m, d, k, rfl, b2⟩ := came t1
        have hb := World.block_lt_of_cell? w _ e0
        rw [add_block] at hb
        have q0 : w.cell? ((⟨b, o, none⟩ : Addr).add (j * 2 + 0)) = some (.slice A n1 c1) := e0
        have q1 : w.cell? ((⟨b, o, none⟩ : Addr).add (j * 2 + 1)) = some (.slice B m d) := e1
        rw [add_lit, Nat.add_zero] at q0
        rw [add_lit, ← Nat.add_assoc] at q1
        exact ⟨(l, k), hb, A, n1, c1, B, m, d, q0, q1, b1, b2⟩
      obtain ⟨L, h1, h2⟩ := list_of n hat
      obtain ⟨hb, _⟩ := h2 0 h0
      exact ⟨_, n, c, L, hcs, h1, hl, hm, (fun e => by cases e), fun _ => ⟨b, o, rfl, hb, fun j hj => (h2 j hj).2⟩⟩
end
end Go.Proofs.Ythcchaglloggjaa
