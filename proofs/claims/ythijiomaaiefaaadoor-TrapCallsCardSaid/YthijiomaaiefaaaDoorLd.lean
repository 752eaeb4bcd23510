/- What the statement's own condition on the library's variables gives the walks; the state that the program's own start-up lays meets it. -/
import Derived.Test.YthijiomaaiefaaaDoorTt
import Derived.Test.YthijiomaaiefaaaDoorRows
import Derived.ProofKit
import Derived.LaidMore
import Derived.LaidHandle
import Derived.Stop.Joined
import Derived.Stop.LaidErr
import Derived.Lib.LaidTab
namespace Go.Proofs.YthijiomaaiefaaaDoor
open Go.ChangeShapes Go.WideShapes Go.ChangeAt Go.RowKit

theorem own : ownKnob Tryd.prog.godebug = none := by kernel_rfl
theorem laidOut : laidOutB Tryd.prog = true := by kernel_rfl

theorem Tryd.errRow : ((List.range 131).filter fun t => Tryd.prog.rowNamed t [101, 114, 114, 111, 114]) = [26] := by kernel_rfl
theorem Tryd.typesSize : Tryd.prog.types.size = 131 := by kernel_rfl
theorem Tryd.gEt : Tryd.prog.globalNamed "errors.errorType" = some 0 := by kernel_rfl
theorem Tryd.tTab : (Tryd.prog.globals[1]?).map (·.type) = some 94 := by kernel_rfl
theorem Tryd.cTab : Tryd.prog.cellsOf 94 = 20 := by kernel_rfl
theorem Tryd.cWord : Tryd.prog.cellsOf 86 = 1 := by kernel_rfl

theorem libs_of {W : World} (h : laidMetH Tryd.prog Rows.trapCallsRow.laid W) : Libs W := by
  have h' : laidMet Tryd.prog (Rows.trapCallsRow.laid.take 3) W ∧ handlesMet Tryd.prog (Rows.trapCallsRow.laid.drop 3) W := h
  have h1 : laidMet Tryd.prog [(tabName, Lib.tabData .u64 Lib.pow10Tab)] W := h'.1.tail.tail
  refine ⟨?_, Lib.tabIs_of_head Tryd.gTab Tryd.tTab Tryd.underlying94 Tryd.underlying86 Tryd.cWord Tryd.cTab h1⟩
  obtain ⟨name, u, ty, e1, e2, e3, e4, e5⟩ := h'.2 _ (List.mem_singleton.2 rfl)
  have en : name = [101, 114, 114, 111, 114] := (Option.some.inj e1).symm
  subst en
  obtain rfl : u = 71 := Option.some.inj (e2.symm.trans (by kernel_rfl))
  have hm : ty ∈ (List.range 131).filter fun t => Tryd.prog.rowNamed t [101, 114, 114, 111, 114] := List.mem_filter.2 ⟨List.mem_range.2 (by rw [← Tryd.typesSize]; exact e3), e4⟩
  rw [Tryd.errRow] at hm
  obtain rfl := List.mem_singleton.1 hm
  have hh : typeHandle Tryd.prog 26 = .pointer (some ⟨4, 26, none⟩) := by kernel_rfl
  rw [hh] at e5
  simpa using World.var?_cell Tryd.gEt e5 0

/-- The heap that the program's own start-up leaves meets the condition. -/
theorem door_met (os : Os) (args : Array Value) : laidMetH Tryd.prog Rows.trapCallsRow.laid ((World.doorLaid Tryd.prog 31 os).forCall (fun _ _ => 0) ⟨#[], args, []⟩).memory :=
  laidMetH_of_parts3 (fuel := 8) (laidMet_of_run' 8 (by kernel_rfl) (by kernel_rfl)) (by kernel_rfl) (by kernel_rfl)
end Go.Proofs.YthijiomaaiefaaaDoor
