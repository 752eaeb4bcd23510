/- The contract of package omap's answer: a scan; any request. Condition: as there. -/
import Derived.Test.YthcchaglloggjaaWi
namespace Go.Proofs.Ythcchaglloggjaa
open Go.RowKit
set_option linter.unusedVariables false
set_option maxRecDepth 100000

theorem rsr_rows {C : Nat → Prop} {w : World} {B : Option Addr} {m d : Nat} {P : List Pr} (h : On C w (Prs · B m d P)) : On C w (RsR · ⟨none, 0, 0, B, m, d⟩ ⟨0, false, [], P⟩) := fun v hv => ⟨byt_none v, h v hv⟩

end Go.Proofs.Ythcchaglloggjaa
