/- A slice of numbers, of Booleans, that came in reads as a list. No condition. -/
import Derived.Test.YthcchaglloggjaaJl
import Derived.Test.YthcchaglloggjaaRl
import Derived.Test.YthcchaglloggjaaWq
import Derived.Deep.Grids
namespace Go.Proofs.Ythcchaglloggjaa
open Go.ChangeShapes Go.WideShapes Go.ChangeAt Go.RowKit Go.Deep
set_option linter.unusedVariables false

section
variable {H : Type} {enc : TypeId × Value → H} {w : World} {base : Nat} {held : Bool}
theorem came_ints {fuel : Nat} {v : Value} {x : DataW H × List MemPlace} (h : DataW.trod enc Try.prog w base (fun _ => true) held fuel 30 [v] = some x) :
    ∃ A n c L, v = .slice A n c ∧ Ils w A n L := by
  rcases open_ints Try.underlying30 Try.underlying3 (by kernel_rfl) h with ⟨hcs, _⟩ | ⟨a, n, c, zs, hcs, _, hl, hm, hz, _, hcell, -⟩
  · simp at hcs
    exact ⟨none, 0, 0, [], hcs, ils_nil w⟩
  · simp at hcs
    have hz' : zs.length = c := by simpa using hz
    obtain ⟨b, o, s⟩ := a
    rcases Nat.eq_zero_or_pos n with h0 | h0
    · subst h0
      exact ⟨_, 0, c, [], hcs, rfl, Nat.zero_le _, fun h => absurd h (by omega)⟩
    · have hc0 := hcell 0 (by omega)
      obtain rfl : s = none := by simpa [Addr.add] using World.cell?_spot hc0
      have hb := World.block_lt_of_cell? w _ hc0
      rw [add_block] at hb
      refine ⟨_, n, c, zs.take n, hcs, by simp; omega, Nat.le_trans hl hm, fun _ => ⟨b, o, rfl, hb, fun j hj => ?_⟩⟩
      have := hcell j (by omega)
      rw [add_lit] at this
      rw [this]
      unfold it
      simp [List.getD_eq_getElem?_getD, hj]
theorem came_bools {fuel : Nat} {v : Value} {x : DataW H × List MemPlace} (h : DataW.trod enc Try.prog w base (fun _ => true) held fuel 58 [v] = some x) :
    ∃ A n c L, v = .slice A n c ∧ Bls w A n L := by
  rcases open_bools Try.underlying58 Try.underlying4 (by kernel_rfl) h with ⟨hcs, _⟩ | ⟨a, n, c, B, hcs, _, hl, hm, _, hcell⟩
  · simp at hcs
    exact ⟨none, 0, 0, [], hcs, rfl, Nat.zero_le _, fun h => absurd h (by omega)⟩
  · simp at hcs
    obtain ⟨b, o, s⟩ := a
    rcases Nat.eq_zero_or_pos n with h0 | h0
    · subst h0
      exact ⟨_, 0, c, [], hcs, rfl, Nat.zero_le _, fun h => absurd h (by omega)⟩
    · have hc0 := hcell 0 (by omega)
      obtain rfl : s = none := by simpa [Addr.add] using World.cell?_spot hc0
      have hb := World.block_lt_of_cell? w _ hc0
      rw [add_block] at hb
      refine ⟨_, n, c, (List.range n).map B, hcs, by simp, Nat.le_trans hl hm, fun _ => ⟨b, o, rfl, hb, fun j hj => ?_⟩⟩
      have := hcell j (by omega)
      rw [add_lit] at this
      rw [this]
      unfold bt
      simp [List.getD_eq_getElem?_getD, hj]
end
end Go.Proofs.Ythcchaglloggjaa
