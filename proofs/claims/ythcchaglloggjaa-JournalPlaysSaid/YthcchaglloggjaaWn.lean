/- Contracts of the document's own Same and Answers (where both read the same: true); the law's head (the document's example): it returns true. Condition: what came in can be read. -/
import Derived.Test.YthcchaglloggjaaWm
namespace Go.Proofs.Ythcchaglloggjaa
open Go.RowKit
set_option linter.unusedVariables false
set_option maxRecDepth 100000

/-- Two answers' boxes. -/
theorem box_two (w : World) (h h' : Sh) (s s' : Rs) : ∃ V, V = (w.alloc (.cells #[.int .i64 s.code, .bool s.found, .slice h.A h.n h.c, .slice h.B h.m h.d, .int .u64 0] 46)).alloc (.cells #[.int .i64 s'.code, .bool s'.found, .slice h'.A h'.n h'.c, .slice h'.B h'.m h'.d, .int .u64 0] 46) ∧
    Below w.heap.size w V ∧ BoxS V w.heap.size h s ∧ BoxS V (w.heap.size + 1) h' s' := by
  obtain ⟨W, hW, hWB, hWS, hWs⟩ := box_s w h s
  obtain ⟨V, hV, hVB, hVS, hVs⟩ := box_s W h' s'
  subst hW
  refine ⟨V, hV, hWB.trans (hVB.mono (by omega)), hWS.below hVB (by omega), ?_⟩
  rw [hWs] at hVS
  exact hVS

end Go.Proofs.Ythcchaglloggjaa
