/- The contract of package omap's Do. Condition: a row of no more than 500 pairs; a request whose slices have at most 100 bytes; what came in can be read. -/
import Derived.Test.YthcchaglloggjaaWl
namespace Go.Proofs.Ythcchaglloggjaa
open Go.RowKit
set_option linter.unusedVariables false
set_option maxRecDepth 100000

end Go.Proofs.Ythcchaglloggjaa
