/- The contract of package omap's Do. Condition: a row of no more than 500 pairs; a request whose slices have at most 100 bytes; what came in can be read. -/
import Derived.Test.YtdhgogepjedonaaWl
namespace Go.Proofs.Ytdhgogepjedonaa
open Go.RowKit
set_option linter.unusedVariables false
set_option maxRecDepth 100000

theorem copied_lit {w : World} {A : Option Addr} {n c : Nat} {L : List Pr} (h : Prs w A n c L) (hf : Fit L) (hn : n ≤ 900) : Calls Try.prog 35 #[.slice A n c] w (MadeN w L) := copied_any h (small_fit hf) (by omega)

end Go.Proofs.Ytdhgogepjedonaa
