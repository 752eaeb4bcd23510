/- Contracts of package row's Slice with any limit, and of Delete once more (new memory), of Merge with nothing, and of package omap's copied. Condition: a row of no more than 1000 pairs; what came in can be read. -/
import Derived.Test.YthcchaglloggjaaWe
namespace Go.Proofs.Ythcchaglloggjaa
open Go.RowKit
set_option linter.unusedVariables false
set_option maxRecDepth 100000

theorem cut_end {P : List Pr} {l h : Ky} {f : Nat} : ∀ (k j : Nat), j + k = P.length → (∀ i, f ≤ i → i < j → inB l h (gt P i).1 = true) → ∃ J, j ≤ J ∧ J ≤ P.length ∧ (∀ i, f ≤ i → i < J → inB l h (gt P i).1 = true) ∧ (J < P.length → inB l h (gt P J).1 = false)
  | 0, j, hj, ha => ⟨j, Nat.le_refl _, by omega, ha, fun h => absurd h (by omega)⟩
  | k + 1, j, hj, ha => by
    cases hi : inB l h (gt P j).1
    · exact ⟨j, Nat.le_refl _, by omega, ha, fun _ => hi⟩
    · obtain ⟨J, h1, h2, h3, h4⟩ := cut_end (P := P) (l := l) (h := h) (f := f) k (j + 1) (by omega) (fun i h1 h2 => by
        rcases Nat.lt_succ_iff_lt_or_eq.1 h2 with h | rfl
        · exact ha i h1 h
        · exact hi)
      exact ⟨J, by omega, h2, h3, h4⟩
/-- The first ones of those in a range. -/
theorem cut_lim {P : List Pr} (hs : Srt P) {l h : Ky} {j : Nat} (lim : Nat) (h1 : pos P l ≤ j) (h2 : j ≤ P.length) (h3 : ∀ i, pos P l ≤ i → i < j → inB l h (gt P i).1 = true) (h4 : j < P.length → j - pos P l = lim ∨ inB l h (gt P j).1 = false) (h5 : j - pos P l ≤ lim) :
    (P.drop (pos P l)).take (j - pos P l) = (cutL P l h).take lim := by
  obtain ⟨J, g1, g2, g3, g4⟩ := cut_end (P.length - j) j (by omega) h3
  rw [← cut_is (j := J) hs (Nat.le_trans h1 g1) g2 g3 g4, List.take_take]
  by_cases hj : j < P.length
  · rcases h4 hj with h | h
    · rw [h, Nat.min_eq_left (by omega)]
    · have : J = j := by
        rcases Nat.lt_or_ge j J with hlt | hge
        · rw [g3 j h1 hlt] at h
          cases h
        · omega
      rw [this, Nat.min_eq_right h5]
  · have : J = j := by omega
    rw [this, Nat.min_eq_right h5]

end Go.Proofs.Ythcchaglloggjaa
