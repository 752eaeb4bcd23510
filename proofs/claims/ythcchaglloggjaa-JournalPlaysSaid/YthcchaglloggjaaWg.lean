/- Contracts of package row's Delete once more (new memory), of Merge with nothing, and of package omap's copied and written. Condition: a row of no more than 1000 pairs; what came in can be read. -/
import Derived.Test.YthcchaglloggjaaWf
namespace Go.Proofs.Ythcchaglloggjaa
open Go.RowKit
set_option linter.unusedVariables false
set_option maxRecDepth 100000

/-- What Delete leaves. -/
def DeldN (w : World) (L : List Pr) (b : Bool) (e : Ending) (w' : World) : Prop := ∃ A n c, e = .returned (.tuple #[.slice A n c, .bool b]) ∧ On (w.heap.size ≤ ·) w' (Prs · A n c L) ∧ Below w.heap.size w w'

end Go.Proofs.Ythcchaglloggjaa
