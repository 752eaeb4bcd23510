/- The contract of package omap's All. Condition: a row of no more than 500 pairs, no more than 300 requests, whose slices have at most 100 bytes; what came in can be read. -/
import Derived.Test.YthcchaglloggjaaWk
namespace Go.Proofs.Ythcchaglloggjaa
open Go.RowKit
set_option linter.unusedVariables false
set_option maxRecDepth 100000

end Go.Proofs.Ythcchaglloggjaa
