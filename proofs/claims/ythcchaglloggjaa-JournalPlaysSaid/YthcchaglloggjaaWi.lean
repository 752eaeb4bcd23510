/- The contract of package omap's answer where a key is deleted. Condition: as there. -/
import Derived.Test.YthcchaglloggjaaWh
namespace Go.Proofs.Ythcchaglloggjaa
open Go.RowKit
set_option linter.unusedVariables false
set_option maxRecDepth 100000

end Go.Proofs.Ythcchaglloggjaa
